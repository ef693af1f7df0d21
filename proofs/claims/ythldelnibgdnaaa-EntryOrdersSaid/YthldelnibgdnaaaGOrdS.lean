/- Same and SameKey. -/
import Derived.Test.YthldelnibgdnaaaGOrdP
import Derived.Test.YthldelnibgdnaaaSSame
import Derived.Test.YthldelnibgdnaaaGEnt
namespace Go.Proofs.Ythldelnibgdnaaa
open Go.RowKit
/-- it says whether P -/
def SaysP (P : Prop) (w : World) (e : Ending) (w' : World) : Prop := ∃ b : Bool, e = .returned (.bool b) ∧ (b = true ↔ P) ∧ Below w.heap.size w w'
theorem bool_iff {p q : Bool} (h : p = true ↔ q = true) : p = q := by cases p <;> cases q <;> simp_all
set_option maxRecDepth 100000 in
set_option maxHeartbeats 4000000 in
theorem g_SameKey {w : World} {B : Nat} (a b : EntryD) {A1 A2 U1 U2 : Option Addr} {n1 c1 n2 c2 m1 d1 m2 d2 : Nat} (h1 : RowV 8 MatchV B w (.slice A1 n1 c1) a.ms) (h2 : RowV 8 MatchV B w (.slice A2 n2 c2) b.ms) (hB : B ≤ w.heap.size) : Calls Try.prog 13 #[.agg #[.int .i64 a.table, .slice A1 n1 c1, .int .i64 a.prio, .int .i64 a.action, .slice U1 m1 d1], .agg #[.int .i64 b.table, .slice A2 n2 c2, .int .i64 b.prio, .int .i64 b.action, .slice U2 m2 d2]] w (SaysP (a.table = b.table ∧ a.prio = b.prio ∧ a.ms = b.ms) w) := by
  obtain ⟨W0, hW0⟩ : ∃ W, W = ((w.alloc (.cells #[.int .i64 a.table, .slice A1 n1 c1, .int .i64 a.prio, .int .i64 a.action, .slice U1 m1 d1] 26)).alloc (.cells #[.int .i64 b.table, .slice A2 n2 c2, .int .i64 b.prio, .int .i64 b.action, .slice U2 m2 d2] 26)) := ⟨_, rfl⟩
  have hB0 : Below w.heap.size w W0 := by rw [hW0]; exact (((Below.refl w.heap.size w).alloc (by simp <;> omega) _).alloc (by simp <;> omega) _)
  have b1 : W0.heap[w.heap.size + 1]? = some (.cells #[.int .i64 b.table, .slice A2 n2 c2, .int .i64 b.prio, .int .i64 b.action, .slice U2 m2 d2] 26 (0, 0)) := by
    rw [hW0]
    have := heap_alloc_new (w.alloc (.cells #[.int .i64 a.table, .slice A1 n1 c1, .int .i64 a.prio, .int .i64 a.action, .slice U1 m1 d1] 26)) (.cells #[.int .i64 b.table, .slice A2 n2 c2, .int .i64 b.prio, .int .i64 b.action, .slice U2 m2 d2] 26)
    rw [show (w.alloc (.cells #[.int .i64 a.table, .slice A1 n1 c1, .int .i64 a.prio, .int .i64 a.action, .slice U1 m1 d1] 26)).heap.size = w.heap.size + 1 by simp] at this
    exact this
  have b0 : W0.heap[w.heap.size]? = some (.cells #[.int .i64 a.table, .slice A1 n1 c1, .int .i64 a.prio, .int .i64 a.action, .slice U1 m1 d1] 26 (0, 0)) := by
    rw [hW0]
    exact (((Below.refl (w.alloc (.cells #[.int .i64 a.table, .slice A1 n1 c1, .int .i64 a.prio, .int .i64 a.action, .slice U1 m1 d1] 26)).heap.size (w.alloc (.cells #[.int .i64 a.table, .slice A1 n1 c1, .int .i64 a.prio, .int .i64 a.action, .slice U1 m1 d1] 26))).alloc (by simp <;> omega) (.cells #[.int .i64 b.table, .slice A2 n2 c2, .int .i64 b.prio, .int .i64 b.action, .slice U2 m2 d2] 26)).block w.heap.size (by simp)).trans (heap_alloc_new w (.cells #[.int .i64 a.table, .slice A1 n1 c1, .int .i64 a.prio, .int .i64 a.action, .slice U1 m1 d1] 26))
  have HB0 := Lib.hid hB0
  have HW0 := Lib.hid hW0
  have HA := Lib.hid b0
  have HBB := Lib.hid b1
  have x0 := blk_cell b0 0 _ rfl
  have y0 := blk_cell b1 0 _ rfl
  have x1 := blk_cell b0 1 _ rfl
  have y1 := blk_cell b1 1 _ rfl
  have x2 := blk_cell b0 2 _ rfl
  have y2 := blk_cell b1 2 _ rfl
  have x3 := blk_cell b0 3 _ rfl
  have y3 := blk_cell b1 3 _ rfl
  have x4 := blk_cell b0 4 _ rfl
  have y4 := blk_cell b1 4 _ rfl
  have K : Hid (Calls Try.prog 37 #[.slice A1 n1 c1, .slice A2 n2 c2] W0 (SaysEq a.ms b.ms W0)) := Lib.hid (eqs_match (h1.below kept_match (hB0.mono hB)) (h2.below kept_match (hB0.mono hB)))
  clear hB0 hW0 b0 b1
  clear h1 h2
  by_cases h0 : a.table = b.table
  · have H0 := Lib.hid h0
    by_cases h1 : a.prio = b.prio
    · have H1 := Lib.hid h1
      have HWt := HW0.out
      (try rw [h0] at HWt)
      (try rw [h1] at HWt)
      have HWT := Lib.hid HWt
      clear HWt
      go_enter Try.func13, Try.ntmps13
      go_upto_region 1 with fail
      rw [← HWT.out]
      go_wp2_with (go_at_call 37; (with_reducible refine K.out.mono ?_); rintro en w1 ⟨r, rfl, hr, hbl⟩)
      go_ret
      exact ⟨_, rfl, ⟨fun h => ⟨H0.out, H1.out, hr.1 h⟩, fun h => hr.2 h.2.2⟩, HB0.out.trans (hbl.mono HB0.out.size)⟩
    · have H1 := Lib.hid h1
      have h1d : decide (a.prio = b.prio) = false := decide_eq_false h1
      have HWt := HW0.out
      (try rw [h0] at HWt)
      (try rw [h1] at HWt)
      have HWT := Lib.hid HWt
      clear HWt
      go_enter Try.func13, Try.ntmps13
      go_upto_region 1 with fail
      rw [← HWT.out]
      go_wp2_with fail
      go_ret
      exact ⟨false, rfl, ⟨fun h => (by cases h), fun h => absurd h.2.1 H1.out⟩, HB0.out⟩
  · have H0 := Lib.hid h0
    have h0d : decide (a.table = b.table) = false := decide_eq_false h0
    go_enter Try.func13, Try.ntmps13
    go_upto_region 1 with fail
    rw [← HW0.out]
    go_wp2_with fail
    go_ret
    exact ⟨false, rfl, ⟨fun h => (by cases h), fun h => absurd h.1 H0.out⟩, HB0.out⟩
set_option maxRecDepth 100000 in
set_option maxHeartbeats 4000000 in
theorem r_SameKey {w : World} {B : Nat} (a b : EntryD) {A1 A2 U1 U2 : Option Addr} {n1 c1 n2 c2 m1 d1 m2 d2 : Nat} (h1 : RowV 8 MatchV B w (.slice A1 n1 c1) a.ms) (h2 : RowV 8 MatchV B w (.slice A2 n2 c2) b.ms) (hB : B ≤ w.heap.size) : Calls Try.prog 14 #[.agg #[.int .i64 a.table, .slice A1 n1 c1, .int .i64 a.prio, .int .i64 a.action, .slice U1 m1 d1], .agg #[.int .i64 b.table, .slice A2 n2 c2, .int .i64 b.prio, .int .i64 b.action, .slice U2 m2 d2]] w (SaysP (a.table = b.table ∧ a.prio = b.prio ∧ a.ms = b.ms) w) := by
  obtain ⟨W0, hW0⟩ : ∃ W, W = ((w.alloc (.cells #[.int .i64 a.table, .slice A1 n1 c1, .int .i64 a.prio, .int .i64 a.action, .slice U1 m1 d1] 26)).alloc (.cells #[.int .i64 b.table, .slice A2 n2 c2, .int .i64 b.prio, .int .i64 b.action, .slice U2 m2 d2] 26)) := ⟨_, rfl⟩
  have hB0 : Below w.heap.size w W0 := by rw [hW0]; exact (((Below.refl w.heap.size w).alloc (by simp <;> omega) _).alloc (by simp <;> omega) _)
  have b1 : W0.heap[w.heap.size + 1]? = some (.cells #[.int .i64 b.table, .slice A2 n2 c2, .int .i64 b.prio, .int .i64 b.action, .slice U2 m2 d2] 26 (0, 0)) := by
    rw [hW0]
    have := heap_alloc_new (w.alloc (.cells #[.int .i64 a.table, .slice A1 n1 c1, .int .i64 a.prio, .int .i64 a.action, .slice U1 m1 d1] 26)) (.cells #[.int .i64 b.table, .slice A2 n2 c2, .int .i64 b.prio, .int .i64 b.action, .slice U2 m2 d2] 26)
    rw [show (w.alloc (.cells #[.int .i64 a.table, .slice A1 n1 c1, .int .i64 a.prio, .int .i64 a.action, .slice U1 m1 d1] 26)).heap.size = w.heap.size + 1 by simp] at this
    exact this
  have b0 : W0.heap[w.heap.size]? = some (.cells #[.int .i64 a.table, .slice A1 n1 c1, .int .i64 a.prio, .int .i64 a.action, .slice U1 m1 d1] 26 (0, 0)) := by
    rw [hW0]
    exact (((Below.refl (w.alloc (.cells #[.int .i64 a.table, .slice A1 n1 c1, .int .i64 a.prio, .int .i64 a.action, .slice U1 m1 d1] 26)).heap.size (w.alloc (.cells #[.int .i64 a.table, .slice A1 n1 c1, .int .i64 a.prio, .int .i64 a.action, .slice U1 m1 d1] 26))).alloc (by simp <;> omega) (.cells #[.int .i64 b.table, .slice A2 n2 c2, .int .i64 b.prio, .int .i64 b.action, .slice U2 m2 d2] 26)).block w.heap.size (by simp)).trans (heap_alloc_new w (.cells #[.int .i64 a.table, .slice A1 n1 c1, .int .i64 a.prio, .int .i64 a.action, .slice U1 m1 d1] 26))
  have HB0 := Lib.hid hB0
  have HW0 := Lib.hid hW0
  have HA := Lib.hid b0
  have HBB := Lib.hid b1
  have x0 := blk_cell b0 0 _ rfl
  have y0 := blk_cell b1 0 _ rfl
  have x1 := blk_cell b0 1 _ rfl
  have y1 := blk_cell b1 1 _ rfl
  have x2 := blk_cell b0 2 _ rfl
  have y2 := blk_cell b1 2 _ rfl
  have x3 := blk_cell b0 3 _ rfl
  have y3 := blk_cell b1 3 _ rfl
  have x4 := blk_cell b0 4 _ rfl
  have y4 := blk_cell b1 4 _ rfl
  obtain ⟨z, hz⟩ : ∃ z, z = lexI matI a.ms b.ms := ⟨_, rfl⟩
  have K : Hid (Calls Try.prog 34 #[.slice A1 n1 c1, .slice A2 n2 c2] W0 (RetX (.int .i64 z) W0)) := Lib.hid (by rw [hz]; exact r_matches (h1.below kept_match (hB0.mono hB)) (h2.below kept_match (hB0.mono hB)) (Nat.le_trans hB hB0.size))
  have HZ : Hid (decide (z = 0) = true ↔ a.ms = b.ms) := Lib.hid (by rw [decide_eq_true_iff, hz]; exact lex0 matI_0 _ _)
  clear hz
  clear hB0 hW0 b0 b1
  clear h1 h2
  by_cases h0 : a.table = b.table
  · have H0 := Lib.hid h0
    by_cases h1 : a.prio = b.prio
    · have H1 := Lib.hid h1
      have HWt := HW0.out
      (try rw [h0] at HWt)
      (try rw [h1] at HWt)
      have HWT := Lib.hid HWt
      clear HWt
      go_enter Try.func14, Try.ntmps14
      go_upto_region 1 with fail
      rw [← HWT.out]
      go_wp2_with (go_at_call 34; (with_reducible refine K.out.mono ?_); rintro en w1 ⟨rfl, hbl⟩)
      go_ret
      exact ⟨_, rfl, ⟨fun h => ⟨H0.out, H1.out, HZ.out.1 h⟩, fun h => HZ.out.2 h.2.2⟩, HB0.out.trans (hbl.mono HB0.out.size)⟩
    · have H1 := Lib.hid h1
      have h1d : decide (a.prio = b.prio) = false := decide_eq_false h1
      have HWt := HW0.out
      (try rw [h0] at HWt)
      (try rw [h1] at HWt)
      have HWT := Lib.hid HWt
      clear HWt
      go_enter Try.func14, Try.ntmps14
      go_upto_region 1 with fail
      rw [← HWT.out]
      go_wp2_with fail
      go_ret
      exact ⟨false, rfl, ⟨fun h => (by cases h), fun h => absurd h.2.1 H1.out⟩, HB0.out⟩
  · have H0 := Lib.hid h0
    have h0d : decide (a.table = b.table) = false := decide_eq_false h0
    go_enter Try.func14, Try.ntmps14
    go_upto_region 1 with fail
    rw [← HW0.out]
    go_wp2_with fail
    go_ret
    exact ⟨false, rfl, ⟨fun h => (by cases h), fun h => absurd h.1 H0.out⟩, HB0.out⟩
set_option maxRecDepth 100000 in
set_option maxHeartbeats 4000000 in
theorem g_Same {w : World} {B : Nat} (a b : EntryD) {A1 A2 U1 U2 : Option Addr} {n1 c1 n2 c2 m1 d1 m2 d2 : Nat} (h1 : RowV 8 MatchV B w (.slice A1 n1 c1) a.ms) (h2 : RowV 8 MatchV B w (.slice A2 n2 c2) b.ms) (k1 : RowV 2 ValV B w (.slice U1 m1 d1) a.args) (k2 : RowV 2 ValV B w (.slice U2 m2 d2) b.args) (hB : B ≤ w.heap.size) : Calls Try.prog 12 #[.agg #[.int .i64 a.table, .slice A1 n1 c1, .int .i64 a.prio, .int .i64 a.action, .slice U1 m1 d1], .agg #[.int .i64 b.table, .slice A2 n2 c2, .int .i64 b.prio, .int .i64 b.action, .slice U2 m2 d2]] w (SaysP (sameE a b) w) := by
  obtain ⟨W0, hW0⟩ : ∃ W, W = ((w.alloc (.cells #[.int .i64 a.table, .slice A1 n1 c1, .int .i64 a.prio, .int .i64 a.action, .slice U1 m1 d1] 26)).alloc (.cells #[.int .i64 b.table, .slice A2 n2 c2, .int .i64 b.prio, .int .i64 b.action, .slice U2 m2 d2] 26)) := ⟨_, rfl⟩
  have hB0 : Below w.heap.size w W0 := by rw [hW0]; exact (((Below.refl w.heap.size w).alloc (by simp <;> omega) _).alloc (by simp <;> omega) _)
  have b1 : W0.heap[w.heap.size + 1]? = some (.cells #[.int .i64 b.table, .slice A2 n2 c2, .int .i64 b.prio, .int .i64 b.action, .slice U2 m2 d2] 26 (0, 0)) := by
    rw [hW0]
    have := heap_alloc_new (w.alloc (.cells #[.int .i64 a.table, .slice A1 n1 c1, .int .i64 a.prio, .int .i64 a.action, .slice U1 m1 d1] 26)) (.cells #[.int .i64 b.table, .slice A2 n2 c2, .int .i64 b.prio, .int .i64 b.action, .slice U2 m2 d2] 26)
    rw [show (w.alloc (.cells #[.int .i64 a.table, .slice A1 n1 c1, .int .i64 a.prio, .int .i64 a.action, .slice U1 m1 d1] 26)).heap.size = w.heap.size + 1 by simp] at this
    exact this
  have b0 : W0.heap[w.heap.size]? = some (.cells #[.int .i64 a.table, .slice A1 n1 c1, .int .i64 a.prio, .int .i64 a.action, .slice U1 m1 d1] 26 (0, 0)) := by
    rw [hW0]
    exact (((Below.refl (w.alloc (.cells #[.int .i64 a.table, .slice A1 n1 c1, .int .i64 a.prio, .int .i64 a.action, .slice U1 m1 d1] 26)).heap.size (w.alloc (.cells #[.int .i64 a.table, .slice A1 n1 c1, .int .i64 a.prio, .int .i64 a.action, .slice U1 m1 d1] 26))).alloc (by simp <;> omega) (.cells #[.int .i64 b.table, .slice A2 n2 c2, .int .i64 b.prio, .int .i64 b.action, .slice U2 m2 d2] 26)).block w.heap.size (by simp)).trans (heap_alloc_new w (.cells #[.int .i64 a.table, .slice A1 n1 c1, .int .i64 a.prio, .int .i64 a.action, .slice U1 m1 d1] 26))
  have HB0 := Lib.hid hB0
  have HW0 := Lib.hid hW0
  have HA := Lib.hid b0
  have HBB := Lib.hid b1
  have x0 := blk_cell b0 0 _ rfl
  have y0 := blk_cell b1 0 _ rfl
  have x1 := blk_cell b0 1 _ rfl
  have y1 := blk_cell b1 1 _ rfl
  have x2 := blk_cell b0 2 _ rfl
  have y2 := blk_cell b1 2 _ rfl
  have x3 := blk_cell b0 3 _ rfl
  have y3 := blk_cell b1 3 _ rfl
  have x4 := blk_cell b0 4 _ rfl
  have y4 := blk_cell b1 4 _ rfl
  obtain ⟨r, hr⟩ := some_bool (a.table = b.table ∧ a.prio = b.prio ∧ a.ms = b.ms)
  obtain ⟨r2, hr2⟩ := some_bool (a.args = b.args)
  have K : Hid (Calls Try.prog 13 #[.agg #[.int .i64 a.table, .slice A1 n1 c1, .int .i64 a.prio, .int .i64 a.action, .slice U1 m1 d1], .agg #[.int .i64 b.table, .slice A2 n2 c2, .int .i64 b.prio, .int .i64 b.action, .slice U2 m2 d2]] W0 fun e w' => e = .returned (.bool r) ∧ Below W0.heap.size W0 w') := Lib.hid ((g_SameKey a b (h1.below kept_match (hB0.mono hB)) (h2.below kept_match (hB0.mono hB)) (Nat.le_trans hB hB0.size)).mono fun e w' ⟨q, h3, h4, h5⟩ => ⟨by rw [h3, bool_iff (h4.trans hr.symm)], h5⟩)
  have KV : Hid (∀ W, Below W0.heap.size W0 W → Calls Try.prog 36 #[.slice U1 m1 d1, .slice U2 m2 d2] W fun e w' => e = .returned (.bool r2) ∧ Below W.heap.size W w') := Lib.hid fun W hb => (eqs_val (k1.below kept_val ((hB0.trans (hb.mono hB0.size)).mono hB)) (k2.below kept_val ((hB0.trans (hb.mono hB0.size)).mono hB))).mono fun e w' ⟨q, h3, h4, h5⟩ => ⟨by rw [h3, bool_iff (h4.trans hr2.symm)], h5⟩
  have hkp : ∀ W, Below W0.heap.size W0 W → W.cell? ⟨w.heap.size, 3, none⟩ = some (.int .i64 a.action) ∧ W.cell? ⟨w.heap.size, 4, none⟩ = some (.slice U1 m1 d1) ∧ W.cell? ⟨w.heap.size + 1, 3, none⟩ = some (.int .i64 b.action) ∧ W.cell? ⟨w.heap.size + 1, 4, none⟩ = some (.slice U2 m2 d2) := fun W hb => by
    have q0 := (hb.block w.heap.size (World.block_lt_of_cell? _ _ x0)).trans b0
    have q1 := (hb.block (w.heap.size + 1) (World.block_lt_of_cell? _ _ y0)).trans b1
    exact ⟨blk_cell q0 3 _ rfl, blk_cell q0 4 _ rfl, blk_cell q1 3 _ rfl, blk_cell q1 4 _ rfl⟩
  have HKP := Lib.hid hkp
  have HR := Lib.hid hr
  have HR2 := Lib.hid hr2
  clear hB0 hW0 b0 b1
  clear h1 h2 k1 k2 hkp hr hr2
  cases r with
  | false =>
    go_enter Try.func12, Try.ntmps12
    go_upto_region 1 with fail
    rw [← HW0.out]
    go_wp2_with (go_at_call 13; (with_reducible refine K.out.mono ?_); rintro en w1 ⟨rfl, hb1⟩; have B1 := Lib.hid hb1; clear hb1)
    go_ret
    exact ⟨false, rfl, ⟨fun h => (by cases h), fun h => absurd (HR.out.2 h.1) (by simp)⟩, HB0.out.trans (B1.out.mono HB0.out.size)⟩
  | true =>
    by_cases h3 : a.action = b.action
    · have H3 := Lib.hid h3
      have HWt := HW0.out
      rw [h3] at HWt
      have HWT := Lib.hid HWt
      clear HWt
      have K3 := K.out
      rw [h3] at K3
      have KK := Lib.hid K3
      clear K3
      go_enter Try.func12, Try.ntmps12
      go_upto_region 1 with fail
      rw [← HWT.out]
      go_wp2_with (first
        | (go_at_call 13; (with_reducible refine KK.out.mono ?_); rintro en w1 ⟨rfl, hb1⟩; have B1 := Lib.hid hb1; obtain ⟨z3, z4, u3, u4⟩ := HKP.out w1 B1.out; clear hb1)
        | (go_at_call 36; (with_reducible refine (KV.out _ B1.out).mono ?_); rintro en w2 ⟨rfl, hb2⟩; have B2 := Lib.hid (B1.out.trans (hb2.mono B1.out.size)); clear hb2))
      go_ret
      exact ⟨r2, rfl, ⟨fun h => ⟨HR.out.1 (by trivial), H3.out, HR2.out.1 h⟩, fun h => HR2.out.2 h.2.2⟩, HB0.out.trans (B2.out.mono HB0.out.size)⟩
    · have H3 := Lib.hid h3
      have h3d : decide (a.action = b.action) = false := decide_eq_false h3
      go_enter Try.func12, Try.ntmps12
      go_upto_region 1 with fail
      rw [← HW0.out]
      go_wp2_with (go_at_call 13; (with_reducible refine K.out.mono ?_); rintro en w1 ⟨rfl, hb1⟩; have B1 := Lib.hid hb1; obtain ⟨z3, z4, u3, u4⟩ := HKP.out w1 B1.out; clear hb1)
      go_ret
      exact ⟨false, rfl, ⟨fun h => (by cases h), fun h => absurd h.2.1 H3.out⟩, HB0.out.trans (B1.out.mono HB0.out.size)⟩
end Go.Proofs.Ythldelnibgdnaaa
