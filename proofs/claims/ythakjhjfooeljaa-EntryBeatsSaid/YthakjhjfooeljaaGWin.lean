/- Who wins: the program's Beats. -/
import Derived.Test.YthakjhjfooeljaaGBeat
namespace Go.Proofs.Ythakjhjfooeljaa
open Go.RowKit

/-- Who wins, by priority, prefix and number. -/
def beatsE (ts : List TableD) (a b : EntryD) (na nb : Int) : Bool := if a.prio = b.prio then (if preE ts a = preE ts b then decide (nb < na) else decide (preE ts b < preE ts a)) else decide (b.prio < a.prio)
theorem beats_fst (ts : List TableD) (a b : EntryD) (na nb : Int) : beatsE ts a b na nb = decide (0 < fstNZ [sgI a.prio b.prio, sgI (preE ts a) (preE ts b), sgI na nb]) := by
  unfold beatsE
  simp only [fstNZ]
  generalize preE ts a = x
  generalize preE ts b = y
  generalize a.prio = x1
  generalize b.prio = y1
  unfold sgI
  rcases Int.lt_trichotomy x1 y1 with h | h | h <;> rcases Int.lt_trichotomy x y with h2 | h2 | h2 <;> rcases Int.lt_trichotomy na nb with h3 | h3 | h3 <;>
    simp [h, h2, h3, Int.lt_irrefl, Int.ne_of_lt, Int.ne_of_gt, Int.lt_asymm] <;> (try simp only [Int.lt_asymm h, if_false]) <;> (try omega) <;> simp_all <;> omega
theorem below_alloc {W0 W : World} (h : Below W0.heap.size W0 W) (o : Obj) : Below W0.heap.size W0 (W.alloc o) := h.alloc h.size _
theorem below_call {W0 W W' : World} (h : Below W0.heap.size W0 W) (h2 : Below W.heap.size W W') : Below W0.heap.size W0 W' := h.trans (h2.mono h.size)
set_option maxRecDepth 100000 in
set_option maxHeartbeats 4000000 in
theorem g_Beats (w : World) (B : Nat) (A4 : Option Addr) (n4 c4 : Nat) (ts : List TableD) (h : RowV 8 TableV B w (.slice A4 n4 c4) ts) (hB : B ≤ w.heap.size) (s0 s1 s2 s3 s5 s6 s7 s8 s9 : Value) (a b : EntryD) (A1 A2 : Option Addr) (m1 k1 m2 k2 : Nat) (u1 u2 o1 o2 : Value) (na nb : Int) (hr1 : RowV 8 MatchV B w (.slice A1 m1 k1) a.ms) (hr2 : RowV 8 MatchV B w (.slice A2 m2 k2) b.ms) :
    Calls Try.prog 21 #[.agg #[s0, s1, s2, s3, .slice A4 n4 c4, s5, s6, s7, s8, s9], .agg #[.int .i64 a.table, .slice A1 m1 k1, .int .i64 a.prio, .int .i64 a.action, u1, .int .i64 na, o1], .agg #[.int .i64 b.table, .slice A2 m2 k2, .int .i64 b.prio, .int .i64 b.action, u2, .int .i64 nb, o2]] w (RetX (.bool (beatsE ts a b na nb)) w) := by
  rw [beats_fst]
  obtain ⟨W0, hW0⟩ : ∃ W, W = (((w.alloc (.cells #[s0, s1, s2, s3, .slice A4 n4 c4, s5, s6, s7, s8, s9] 45)).alloc (.cells #[.int .i64 a.table, .slice A1 m1 k1, .int .i64 a.prio, .int .i64 a.action, u1, .int .i64 na, o1] 60)).alloc (.cells #[.int .i64 b.table, .slice A2 m2 k2, .int .i64 b.prio, .int .i64 b.action, u2, .int .i64 nb, o2] 60)) := ⟨_, rfl⟩
  have hB0 : Below w.heap.size w W0 := by rw [hW0]; exact ((((Below.refl w.heap.size w).alloc (by simp <;> omega) _).alloc (by simp <;> omega) _).alloc (by simp <;> omega) _)
  have hz0 : W0.heap.size = w.heap.size + 3 := by rw [hW0]; simp
  have b0_0 : W0.heap[w.heap.size]? = some (.cells #[s0, s1, s2, s3, .slice A4 n4 c4, s5, s6, s7, s8, s9] 45 (0, 0)) := by
    rw [hW0]
    exact ((((Below.refl (w.alloc (.cells #[s0, s1, s2, s3, .slice A4 n4 c4, s5, s6, s7, s8, s9] 45)).heap.size (w.alloc (.cells #[s0, s1, s2, s3, .slice A4 n4 c4, s5, s6, s7, s8, s9] 45))).alloc (by simp <;> omega) _).alloc (by simp <;> omega) _).block w.heap.size (by simp)).trans (heap_alloc_new _ _)
  have b0_1 : W0.heap[w.heap.size + 1]? = some (.cells #[.int .i64 a.table, .slice A1 m1 k1, .int .i64 a.prio, .int .i64 a.action, u1, .int .i64 na, o1] 60 (0, 0)) := by
    rw [hW0]
    rw [show w.heap.size + 1 = (w.alloc (.cells #[s0, s1, s2, s3, .slice A4 n4 c4, s5, s6, s7, s8, s9] 45)).heap.size by simp]
    exact (((Below.refl ((w.alloc (.cells #[s0, s1, s2, s3, .slice A4 n4 c4, s5, s6, s7, s8, s9] 45)).alloc (.cells #[.int .i64 a.table, .slice A1 m1 k1, .int .i64 a.prio, .int .i64 a.action, u1, .int .i64 na, o1] 60)).heap.size ((w.alloc (.cells #[s0, s1, s2, s3, .slice A4 n4 c4, s5, s6, s7, s8, s9] 45)).alloc (.cells #[.int .i64 a.table, .slice A1 m1 k1, .int .i64 a.prio, .int .i64 a.action, u1, .int .i64 na, o1] 60))).alloc (by simp <;> omega) _).block (w.alloc (.cells #[s0, s1, s2, s3, .slice A4 n4 c4, s5, s6, s7, s8, s9] 45)).heap.size (by simp)).trans (heap_alloc_new _ _)
  have b0_2 : W0.heap[w.heap.size + 2]? = some (.cells #[.int .i64 b.table, .slice A2 m2 k2, .int .i64 b.prio, .int .i64 b.action, u2, .int .i64 nb, o2] 60 (0, 0)) := by
    rw [hW0]
    rw [show w.heap.size + 2 = ((w.alloc (.cells #[s0, s1, s2, s3, .slice A4 n4 c4, s5, s6, s7, s8, s9] 45)).alloc (.cells #[.int .i64 a.table, .slice A1 m1 k1, .int .i64 a.prio, .int .i64 a.action, u1, .int .i64 na, o1] 60)).heap.size by simp]
    exact heap_alloc_new _ _
  have K1 : Hid (∀ W, Below W0.heap.size W0 W → Calls Try.prog 18 #[.agg #[s0, s1, s2, s3, .slice A4 n4 c4, s5, s6, s7, s8, s9], .agg #[.int .i64 a.table, .slice A1 m1 k1, .int .i64 a.prio, .int .i64 a.action, u1]] W (RetX (.int .i64 (preE ts a)) W)) :=
    Lib.hid fun W hb => g_Prefix W B A4 n4 c4 ts (h.below kept_table ((hB0.trans (hb.mono hB0.size)).mono hB)) (Nat.le_trans hB (Nat.le_trans hB0.size hb.size)) s0 s1 s2 s3 s5 s6 s7 s8 s9 a A1 m1 k1 u1 (hr1.below kept_match ((hB0.trans (hb.mono hB0.size)).mono hB))
  have K2 : Hid (∀ W, Below W0.heap.size W0 W → Calls Try.prog 18 #[.agg #[s0, s1, s2, s3, .slice A4 n4 c4, s5, s6, s7, s8, s9], .agg #[.int .i64 b.table, .slice A2 m2 k2, .int .i64 b.prio, .int .i64 b.action, u2]] W (RetX (.int .i64 (preE ts b)) W)) :=
    Lib.hid fun W hb => g_Prefix W B A4 n4 c4 ts (h.below kept_table ((hB0.trans (hb.mono hB0.size)).mono hB)) (Nat.le_trans hB (Nat.le_trans hB0.size hb.size)) s0 s1 s2 s3 s5 s6 s7 s8 s9 b A2 m2 k2 u2 (hr2.below kept_match ((hB0.trans (hb.mono hB0.size)).mono hB))
  have KF : Hid (∀ (W : World) (x y z : Int), Calls Try.prog 54 #[.slice (some ⟨W.heap.size, 0, none⟩) 3 3] (W.alloc (.cells #[.int .i64 x, .int .i64 y, .int .i64 z] 3)) fun en w' => en = .returned (.int .i64 (fstNZ [x, y, z])) ∧ Below (W.alloc (.cells #[.int .i64 x, .int .i64 y, .int .i64 z] 3)).heap.size (W.alloc (.cells #[.int .i64 x, .int .i64 y, .int .i64 z] 3)) w') :=
    Lib.hid fun W x y z => g_firstOf _ _ _ _ [x, y, z] rfl (Nat.le_refl _) (by decide) (fun j v hj => by
      rw [World.cell?_alloc_new]
      match j, hj with
      | 0, hj => simpa using hj
      | 1, hj => simpa using hj
      | 2, hj => simpa using hj)
  have HKS : Hid (∀ w', Below W0.heap.size W0 w' → Below W0.heap.size W0 w' ∧ w'.cell? ⟨w.heap.size, 0, none⟩ = some (s0) ∧ w'.cell? ⟨w.heap.size, 1, none⟩ = some (s1) ∧ w'.cell? ⟨w.heap.size, 2, none⟩ = some (s2) ∧ w'.cell? ⟨w.heap.size, 3, none⟩ = some (s3) ∧ w'.cell? ⟨w.heap.size, 4, none⟩ = some (.slice A4 n4 c4) ∧ w'.cell? ⟨w.heap.size, 5, none⟩ = some (s5) ∧ w'.cell? ⟨w.heap.size, 6, none⟩ = some (s6) ∧ w'.cell? ⟨w.heap.size, 7, none⟩ = some (s7) ∧ w'.cell? ⟨w.heap.size, 8, none⟩ = some (s8) ∧ w'.cell? ⟨w.heap.size, 9, none⟩ = some (s9) ∧ w'.cell? ⟨w.heap.size + 1, 0, none⟩ = some (.int .i64 a.table) ∧ w'.cell? ⟨w.heap.size + 1, 1, none⟩ = some (.slice A1 m1 k1) ∧ w'.cell? ⟨w.heap.size + 1, 2, none⟩ = some (.int .i64 a.prio) ∧ w'.cell? ⟨w.heap.size + 1, 3, none⟩ = some (.int .i64 a.action) ∧ w'.cell? ⟨w.heap.size + 1, 4, none⟩ = some (u1) ∧ w'.cell? ⟨w.heap.size + 1, 5, none⟩ = some (.int .i64 na) ∧ w'.cell? ⟨w.heap.size + 2, 0, none⟩ = some (.int .i64 b.table) ∧ w'.cell? ⟨w.heap.size + 2, 1, none⟩ = some (.slice A2 m2 k2) ∧ w'.cell? ⟨w.heap.size + 2, 2, none⟩ = some (.int .i64 b.prio) ∧ w'.cell? ⟨w.heap.size + 2, 3, none⟩ = some (.int .i64 b.action) ∧ w'.cell? ⟨w.heap.size + 2, 4, none⟩ = some (u2) ∧ w'.cell? ⟨w.heap.size + 2, 5, none⟩ = some (.int .i64 nb)) := Lib.hid fun w' hb => by
    have q0 := (hb.block w.heap.size (by omega)).trans b0_0
    have q1 := (hb.block (w.heap.size + 1) (by omega)).trans b0_1
    have q2 := (hb.block (w.heap.size + 2) (by omega)).trans b0_2
    exact ⟨hb, blk_cell q0 0 _ rfl, blk_cell q0 1 _ rfl, blk_cell q0 2 _ rfl, blk_cell q0 3 _ rfl, blk_cell q0 4 _ rfl, blk_cell q0 5 _ rfl, blk_cell q0 6 _ rfl, blk_cell q0 7 _ rfl, blk_cell q0 8 _ rfl, blk_cell q0 9 _ rfl, blk_cell q1 0 _ rfl, blk_cell q1 1 _ rfl, blk_cell q1 2 _ rfl, blk_cell q1 3 _ rfl, blk_cell q1 4 _ rfl, blk_cell q1 5 _ rfl, blk_cell q2 0 _ rfl, blk_cell q2 1 _ rfl, blk_cell q2 2 _ rfl, blk_cell q2 3 _ rfl, blk_cell q2 4 _ rfl, blk_cell q2 5 _ rfl⟩
  obtain ⟨P1, hP1⟩ : ∃ x, x = preE ts a := ⟨_, rfl⟩
  obtain ⟨P2, hP2⟩ : ∃ x, x = preE ts b := ⟨_, rfl⟩
  rw [← hP1] at K1 ⊢
  rw [← hP2] at K2 ⊢
  have HB0 := Lib.hid hB0
  have HW0 := Lib.hid hW0
  clear h hr1 hr2 hB0 hW0 b0_0 b0_1 b0_2 hP1 hP2
  go_enter Try.func21, Try.ntmps21
  go_upto_region 1 with fail
  change Code.wp _ _ _ _ (((w.alloc (.cells #[s0, s1, s2, s3, .slice A4 n4 c4, s5, s6, s7, s8, s9] 45)).alloc (.cells #[.int .i64 a.table, .slice A1 m1 k1, .int .i64 a.prio, .int .i64 a.action, u1, .int .i64 na, o1] 60)).alloc (.cells #[.int .i64 b.table, .slice A2 m2 k2, .int .i64 b.prio, .int .i64 b.action, u2, .int .i64 nb, o2] 60))
  rw [← HW0.out]
  go_region_held3 (fun w' => Below W0.heap.size W0 w' ∧ w'.cell? ⟨w.heap.size, 0, none⟩ = some (s0) ∧ w'.cell? ⟨w.heap.size, 1, none⟩ = some (s1) ∧ w'.cell? ⟨w.heap.size, 2, none⟩ = some (s2) ∧ w'.cell? ⟨w.heap.size, 3, none⟩ = some (s3) ∧ w'.cell? ⟨w.heap.size, 4, none⟩ = some (.slice A4 n4 c4) ∧ w'.cell? ⟨w.heap.size, 5, none⟩ = some (s5) ∧ w'.cell? ⟨w.heap.size, 6, none⟩ = some (s6) ∧ w'.cell? ⟨w.heap.size, 7, none⟩ = some (s7) ∧ w'.cell? ⟨w.heap.size, 8, none⟩ = some (s8) ∧ w'.cell? ⟨w.heap.size, 9, none⟩ = some (s9) ∧ w'.cell? ⟨w.heap.size + 1, 0, none⟩ = some (.int .i64 a.table) ∧ w'.cell? ⟨w.heap.size + 1, 1, none⟩ = some (.slice A1 m1 k1) ∧ w'.cell? ⟨w.heap.size + 1, 2, none⟩ = some (.int .i64 a.prio) ∧ w'.cell? ⟨w.heap.size + 1, 3, none⟩ = some (.int .i64 a.action) ∧ w'.cell? ⟨w.heap.size + 1, 4, none⟩ = some (u1) ∧ w'.cell? ⟨w.heap.size + 1, 5, none⟩ = some (.int .i64 na) ∧ w'.cell? ⟨w.heap.size + 2, 0, none⟩ = some (.int .i64 b.table) ∧ w'.cell? ⟨w.heap.size + 2, 1, none⟩ = some (.slice A2 m2 k2) ∧ w'.cell? ⟨w.heap.size + 2, 2, none⟩ = some (.int .i64 b.prio) ∧ w'.cell? ⟨w.heap.size + 2, 3, none⟩ = some (.int .i64 b.action) ∧ w'.cell? ⟨w.heap.size + 2, 4, none⟩ = some (u2) ∧ w'.cell? ⟨w.heap.size + 2, 5, none⟩ = some (.int .i64 nb))
    (first
      | exact HKS.out _ (Below.drew (Below.refl _ _))
      | exact HKS.out _ (below_call (And.left (by assumption)) (by assumption))
      | exact HKS.out _ (below_alloc (And.left (by assumption)) _)
      | assumption)
    (first
      | (go_at_call 55; (with_reducible refine (g_cmp _ _ _).mono ?_); rintro en v1 ⟨rfl, rfl⟩)
      | (go_at_call 18; (with_reducible refine (K1.out _ (And.left (by assumption))).mono ?_); rintro en v2 ⟨rfl, hv2⟩)
      | (go_at_call 18; (with_reducible refine (K2.out _ (And.left (by assumption))).mono ?_); rintro en v3 ⟨rfl, hv3⟩)
      | (go_at_call 54; (with_reducible refine (KF.out _ _ _ _).mono ?_); rintro en v4 ⟨rfl, hv4⟩))
  all_goals go_wp2
  all_goals go_ret
  all_goals exact ⟨by first | rfl | simp, HB0.out.trans ((And.left (by assumption : Below W0.heap.size W0 _ ∧ _)).mono HB0.out.size)⟩
end Go.Proofs.Ythakjhjfooeljaa
