/- Contracts, joined: GChk, GChk2, GCov. -/
import Derived.Test.YthldelnibgdnaaaGMat
import Derived.Test.YthldelnibgdnaaaGWin
namespace Go.Proofs.Ythldelnibgdnaaa
/- The program's checks of entries: keys. -/
section
open Go.RowKit

def usedM (m : MatchD) (kd : Int) : MatchD := if kd = 2 then ⟨m.pres, m.val, 0, m.pre, 0⟩ else if kd = 3 then ⟨m.pres, m.val, m.mask, 0, 0⟩ else if kd = 4 then ⟨m.pres, m.val, 0, 0, m.high⟩ else ⟨m.pres, m.val, 0, 0, 0⟩
def formM (m : MatchD) (kd : Int) : Prop := if m.pres = true then m = usedM m kd else (kd ≠ 1 ∧ m = mat0)
def kindM (m : MatchD) (kd b : Int) : Prop := if kd = 2 then (1 ≤ m.pre ∧ m.pre ≤ b ∧ m.val &&& lead b m.pre = m.val) else if kd = 3 then (m.mask ≠ 0 ∧ m.val &&& m.mask = m.val) else if kd = 4 then (¬ (m.val = 0 ∧ m.high = ones b) ∧ m.val ≤ m.high) else True
def fitM (m : MatchD) (kd b : Int) : Prop := ((bitLen m.val : Int) ≤ b ∧ (bitLen m.mask : Int) ≤ b ∧ (bitLen m.high : Int) ≤ b) ∧ kindM m kd b
instance (m : MatchD) (kd : Int) : Decidable (formM m kd) := by unfold formM; infer_instance
instance (m : MatchD) (kd b : Int) : Decidable (kindM m kd b) := by unfold kindM; infer_instance
instance (m : MatchD) (kd b : Int) : Decidable (fitM m kd b) := by unfold fitM; infer_instance
def checkM (m : MatchD) (kd b : Int) : Int := if formM m kd then (if m.pres = true ∧ ¬ fitM m kd b then 5 else 0) else 13
theorem dec_of {p : Prop} [Decidable p] {b : Bool} (h : b = true ↔ p) : decide p = b := by
  cases b
  · exact decide_eq_false fun hp => by simpa using h.2 hp
  · exact decide_eq_true (h.1 rfl)
theorem eqG_val : Try.prog.eqGuardType Try.prog.depth 29 = false := by kernel_rfl
theorem eqG_match : Try.prog.eqGuardType Try.prog.depth 75 = false := by kernel_rfl
theorem below_dn (B : Nat) (w : World) (n : Nat) : Below B w (w.drewN n) := ⟨rfl, rfl, rfl, Nat.le_refl _, fun _ _ => rfl⟩
theorem and_128 {x y : Nat} (hx : x < 2 ^ 128) : x &&& y < 2 ^ 128 := Nat.lt_of_le_of_lt Nat.and_le_left hx
set_option maxRecDepth 100000 in
set_option maxHeartbeats 4000000 in
theorem g_isWithin (x y : Nat) (hx : x < 2 ^ 128) (w : World) : Calls Try.prog 68 #[.agg #[.int .u64 (hi x), .int .u64 (lo x)], .agg #[.int .u64 (hi y), .int .u64 (lo y)]] w (RetX (.bool (decide (x &&& y = x))) w) := by
  obtain ⟨b, hb⟩ := some_bool (x &&& y = x)
  rw [dec_of hb]
  obtain ⟨W0, hW0⟩ : ∃ W, W = ((w.alloc (.cells #[.int .u64 (hi x), .int .u64 (lo x)] 29)).alloc (.cells #[.int .u64 (hi y), .int .u64 (lo y)] 29)) := ⟨_, rfl⟩
  have hB0 : Below w.heap.size w W0 := by rw [hW0]; exact (((Below.refl w.heap.size w).alloc (by simp <;> omega) _).alloc (by simp <;> omega) _)
  have hz0 : W0.heap.size = w.heap.size + 2 := by rw [hW0]; simp
  have b0_0 : W0.heap[w.heap.size]? = some (.cells #[.int .u64 (hi x), .int .u64 (lo x)] 29 (0, 0)) := by
    rw [hW0]
    exact (((Below.refl (w.alloc (.cells #[.int .u64 (hi x), .int .u64 (lo x)] 29)).heap.size (w.alloc (.cells #[.int .u64 (hi x), .int .u64 (lo x)] 29))).alloc (by simp <;> omega) _).block w.heap.size (by simp)).trans (heap_alloc_new _ _)
  have b0_1 : W0.heap[w.heap.size + 1]? = some (.cells #[.int .u64 (hi y), .int .u64 (lo y)] 29 (0, 0)) := by
    rw [hW0]
    rw [show w.heap.size + 1 = (w.alloc (.cells #[.int .u64 (hi x), .int .u64 (lo x)] 29)).heap.size by simp]
    exact heap_alloc_new _ _
  have hq : ∀ W : World, (Op.equalIn 10000 29 (.agg #[.int .u64 (hi (x &&& y)), .int .u64 (lo (x &&& y))]) (.agg #[.int .u64 (hi x), .int .u64 (lo x)])).run Try.prog W = .ok b W := fun W => eqd_val (x &&& y) x (Lib.hid (and_128 hx)) (Lib.hid hx) b hb W
  have hG := eqG_val
  have HKS : Hid (∀ w', Below W0.heap.size W0 w' → Below W0.heap.size W0 w' ∧ w'.cell? ⟨w.heap.size, 0, none⟩ = some (.int .u64 (hi x)) ∧ w'.cell? ⟨w.heap.size, 1, none⟩ = some (.int .u64 (lo x)) ∧ w'.cell? ⟨w.heap.size + 1, 0, none⟩ = some (.int .u64 (hi y)) ∧ w'.cell? ⟨w.heap.size + 1, 1, none⟩ = some (.int .u64 (lo y))) := Lib.hid fun w' hb => by
    have q0 := (hb.block (w.heap.size) (by omega)).trans b0_0
    have q1 := (hb.block (w.heap.size + 1) (by omega)).trans b0_1
    exact ⟨hb, blk_cell q0 0 _ rfl, blk_cell q0 1 _ rfl, blk_cell q1 0 _ rfl, blk_cell q1 1 _ rfl⟩
  have HB0 := Lib.hid hB0
  have HW0 := Lib.hid hW0
  clear hB0 hW0 b0_0 b0_1 hb
  go_enter Try.func68, Try.ntmps68
  go_upto_region 1 with fail
  rw [← HW0.out]
  go_region_held3 (fun w' => Below W0.heap.size W0 w' ∧ w'.cell? ⟨w.heap.size, 0, none⟩ = some (.int .u64 (hi x)) ∧ w'.cell? ⟨w.heap.size, 1, none⟩ = some (.int .u64 (lo x)) ∧ w'.cell? ⟨w.heap.size + 1, 0, none⟩ = some (.int .u64 (hi y)) ∧ w'.cell? ⟨w.heap.size + 1, 1, none⟩ = some (.int .u64 (lo y)))
    (first
      | exact HKS.out _ (Below.drew (Below.refl _ _))
      | exact HKS.out _ (below_call (And.left (by assumption)) (by assumption))
      | exact HKS.out _ (below_alloc (And.left (by assumption)) _)
      | assumption)
    (first
      | (go_at_call 53; (with_reducible refine (and_any _ _ _).mono ?_); rintro en v1 ⟨rfl, hv1⟩))
  all_goals go_wp2
  all_goals go_ret
  all_goals exact ⟨rfl, HB0.out.trans ((And.left (by assumption : Below W0.heap.size W0 _ ∧ _)).mono HB0.out.size)⟩
theorem used_agg (m : MatchD) (kd : Int) (u : MatchD) (h : usedM m kd = u) : (.agg #[.bool u.pres, .int .u64 (hi u.val), .int .u64 (lo u.val), .int .u64 (hi u.mask), .int .u64 (lo u.mask), .int .i64 u.pre, .int .u64 (hi u.high), .int .u64 (lo u.high)] : Value) = .agg #[.bool (usedM m kd).pres, .int .u64 (hi (usedM m kd).val), .int .u64 (lo (usedM m kd).val), .int .u64 (hi (usedM m kd).mask), .int .u64 (lo (usedM m kd).mask), .int .i64 (usedM m kd).pre, .int .u64 (hi (usedM m kd).high), .int .u64 (lo (usedM m kd).high)] := by rw [h]
set_option maxRecDepth 100000 in
set_option maxHeartbeats 4000000 in
theorem g_usedOf (m : MatchD) (kd : Int) (w : World) : Calls Try.prog 66 #[.agg #[.bool m.pres, .int .u64 (hi m.val), .int .u64 (lo m.val), .int .u64 (hi m.mask), .int .u64 (lo m.mask), .int .i64 m.pre, .int .u64 (hi m.high), .int .u64 (lo m.high)], .int .i64 kd] w (RetX (.agg #[.bool (usedM m kd).pres, .int .u64 (hi (usedM m kd).val), .int .u64 (lo (usedM m kd).val), .int .u64 (hi (usedM m kd).mask), .int .u64 (lo (usedM m kd).mask), .int .i64 (usedM m kd).pre, .int .u64 (hi (usedM m kd).high), .int .u64 (lo (usedM m kd).high)]) w) := by
  obtain ⟨W0, hW0⟩ : ∃ W, W = (((w.alloc (.cells #[.bool m.pres, .int .u64 (hi m.val), .int .u64 (lo m.val), .int .u64 (hi m.mask), .int .u64 (lo m.mask), .int .i64 m.pre, .int .u64 (hi m.high), .int .u64 (lo m.high)] 75)).alloc (.cells #[.bool false, .int .u64 0, .int .u64 0, .int .u64 0, .int .u64 0, .int .i64 0, .int .u64 0, .int .u64 0] 75)).alloc (.cells #[.bool m.pres, .int .u64 (hi m.val), .int .u64 (lo m.val), .int .u64 0, .int .u64 0, .int .i64 0, .int .u64 0, .int .u64 0] 75)) := ⟨_, rfl⟩
  have hB0 : Below w.heap.size w W0 := by rw [hW0]; exact ((((Below.refl w.heap.size w).alloc (by simp <;> omega) _).alloc (by simp <;> omega) _).alloc (by simp <;> omega) _)
  have hz0 : W0.heap.size = w.heap.size + 3 := by rw [hW0]; simp
  have b0_0 : W0.heap[w.heap.size]? = some (.cells #[.bool m.pres, .int .u64 (hi m.val), .int .u64 (lo m.val), .int .u64 (hi m.mask), .int .u64 (lo m.mask), .int .i64 m.pre, .int .u64 (hi m.high), .int .u64 (lo m.high)] 75 (0, 0)) := by
    rw [hW0]
    exact ((((Below.refl (w.alloc (.cells #[.bool m.pres, .int .u64 (hi m.val), .int .u64 (lo m.val), .int .u64 (hi m.mask), .int .u64 (lo m.mask), .int .i64 m.pre, .int .u64 (hi m.high), .int .u64 (lo m.high)] 75)).heap.size (w.alloc (.cells #[.bool m.pres, .int .u64 (hi m.val), .int .u64 (lo m.val), .int .u64 (hi m.mask), .int .u64 (lo m.mask), .int .i64 m.pre, .int .u64 (hi m.high), .int .u64 (lo m.high)] 75))).alloc (by simp <;> omega) _).alloc (by simp <;> omega) _).block w.heap.size (by simp)).trans (heap_alloc_new _ _)
  have b0_1 : W0.heap[w.heap.size + 1]? = some (.cells #[.bool false, .int .u64 0, .int .u64 0, .int .u64 0, .int .u64 0, .int .i64 0, .int .u64 0, .int .u64 0] 75 (0, 0)) := by
    rw [hW0]
    rw [show w.heap.size + 1 = (w.alloc (.cells #[.bool m.pres, .int .u64 (hi m.val), .int .u64 (lo m.val), .int .u64 (hi m.mask), .int .u64 (lo m.mask), .int .i64 m.pre, .int .u64 (hi m.high), .int .u64 (lo m.high)] 75)).heap.size by simp]
    exact (((Below.refl ((w.alloc (.cells #[.bool m.pres, .int .u64 (hi m.val), .int .u64 (lo m.val), .int .u64 (hi m.mask), .int .u64 (lo m.mask), .int .i64 m.pre, .int .u64 (hi m.high), .int .u64 (lo m.high)] 75)).alloc (.cells #[.bool false, .int .u64 0, .int .u64 0, .int .u64 0, .int .u64 0, .int .i64 0, .int .u64 0, .int .u64 0] 75)).heap.size ((w.alloc (.cells #[.bool m.pres, .int .u64 (hi m.val), .int .u64 (lo m.val), .int .u64 (hi m.mask), .int .u64 (lo m.mask), .int .i64 m.pre, .int .u64 (hi m.high), .int .u64 (lo m.high)] 75)).alloc (.cells #[.bool false, .int .u64 0, .int .u64 0, .int .u64 0, .int .u64 0, .int .i64 0, .int .u64 0, .int .u64 0] 75))).alloc (by simp <;> omega) _).block (w.alloc (.cells #[.bool m.pres, .int .u64 (hi m.val), .int .u64 (lo m.val), .int .u64 (hi m.mask), .int .u64 (lo m.mask), .int .i64 m.pre, .int .u64 (hi m.high), .int .u64 (lo m.high)] 75)).heap.size (by simp)).trans (heap_alloc_new _ _)
  have b0_2 : W0.heap[w.heap.size + 2]? = some (.cells #[.bool m.pres, .int .u64 (hi m.val), .int .u64 (lo m.val), .int .u64 0, .int .u64 0, .int .i64 0, .int .u64 0, .int .u64 0] 75 (0, 0)) := by
    rw [hW0]
    rw [show w.heap.size + 2 = ((w.alloc (.cells #[.bool m.pres, .int .u64 (hi m.val), .int .u64 (lo m.val), .int .u64 (hi m.mask), .int .u64 (lo m.mask), .int .i64 m.pre, .int .u64 (hi m.high), .int .u64 (lo m.high)] 75)).alloc (.cells #[.bool false, .int .u64 0, .int .u64 0, .int .u64 0, .int .u64 0, .int .i64 0, .int .u64 0, .int .u64 0] 75)).heap.size by simp]
    exact heap_alloc_new _ _
  have c0 : W0.cell? ⟨w.heap.size, 0, none⟩ = some (.bool m.pres) := blk_cell b0_0 0 _ rfl
  have c1 : W0.cell? ⟨w.heap.size, 1, none⟩ = some (.int .u64 (hi m.val)) := blk_cell b0_0 1 _ rfl
  have c2 : W0.cell? ⟨w.heap.size, 2, none⟩ = some (.int .u64 (lo m.val)) := blk_cell b0_0 2 _ rfl
  have c3 : W0.cell? ⟨w.heap.size, 3, none⟩ = some (.int .u64 (hi m.mask)) := blk_cell b0_0 3 _ rfl
  have c4 : W0.cell? ⟨w.heap.size, 4, none⟩ = some (.int .u64 (lo m.mask)) := blk_cell b0_0 4 _ rfl
  have c5 : W0.cell? ⟨w.heap.size, 5, none⟩ = some (.int .i64 m.pre) := blk_cell b0_0 5 _ rfl
  have c6 : W0.cell? ⟨w.heap.size, 6, none⟩ = some (.int .u64 (hi m.high)) := blk_cell b0_0 6 _ rfl
  have c7 : W0.cell? ⟨w.heap.size, 7, none⟩ = some (.int .u64 (lo m.high)) := blk_cell b0_0 7 _ rfl
  have d0 : W0.cell? ⟨w.heap.size + 1, 0, none⟩ = some (.bool false) := blk_cell b0_1 0 _ rfl
  have fd0 := blk_froz b0_1 0
  have d1 : W0.cell? ⟨w.heap.size + 1, 1, none⟩ = some (.int .u64 0) := blk_cell b0_1 1 _ rfl
  have fd1 := blk_froz b0_1 1
  have d2 : W0.cell? ⟨w.heap.size + 1, 2, none⟩ = some (.int .u64 0) := blk_cell b0_1 2 _ rfl
  have fd2 := blk_froz b0_1 2
  have d3 : W0.cell? ⟨w.heap.size + 1, 3, none⟩ = some (.int .u64 0) := blk_cell b0_1 3 _ rfl
  have fd3 := blk_froz b0_1 3
  have d4 : W0.cell? ⟨w.heap.size + 1, 4, none⟩ = some (.int .u64 0) := blk_cell b0_1 4 _ rfl
  have fd4 := blk_froz b0_1 4
  have d5 : W0.cell? ⟨w.heap.size + 1, 5, none⟩ = some (.int .i64 0) := blk_cell b0_1 5 _ rfl
  have fd5 := blk_froz b0_1 5
  have d6 : W0.cell? ⟨w.heap.size + 1, 6, none⟩ = some (.int .u64 0) := blk_cell b0_1 6 _ rfl
  have fd6 := blk_froz b0_1 6
  have d7 : W0.cell? ⟨w.heap.size + 1, 7, none⟩ = some (.int .u64 0) := blk_cell b0_1 7 _ rfl
  have fd7 := blk_froz b0_1 7
  have e0 : W0.cell? ⟨w.heap.size + 2, 0, none⟩ = some (.bool m.pres) := blk_cell b0_2 0 _ rfl
  have fe0 := blk_froz b0_2 0
  have e1 : W0.cell? ⟨w.heap.size + 2, 1, none⟩ = some (.int .u64 (hi m.val)) := blk_cell b0_2 1 _ rfl
  have fe1 := blk_froz b0_2 1
  have e2 : W0.cell? ⟨w.heap.size + 2, 2, none⟩ = some (.int .u64 (lo m.val)) := blk_cell b0_2 2 _ rfl
  have fe2 := blk_froz b0_2 2
  have e3 : W0.cell? ⟨w.heap.size + 2, 3, none⟩ = some (.int .u64 0) := blk_cell b0_2 3 _ rfl
  have fe3 := blk_froz b0_2 3
  have e4 : W0.cell? ⟨w.heap.size + 2, 4, none⟩ = some (.int .u64 0) := blk_cell b0_2 4 _ rfl
  have fe4 := blk_froz b0_2 4
  have e5 : W0.cell? ⟨w.heap.size + 2, 5, none⟩ = some (.int .i64 0) := blk_cell b0_2 5 _ rfl
  have fe5 := blk_froz b0_2 5
  have e6 : W0.cell? ⟨w.heap.size + 2, 6, none⟩ = some (.int .u64 0) := blk_cell b0_2 6 _ rfl
  have fe6 := blk_froz b0_2 6
  have e7 : W0.cell? ⟨w.heap.size + 2, 7, none⟩ = some (.int .u64 0) := blk_cell b0_2 7 _ rfl
  have fe7 := blk_froz b0_2 7
  have HB0 := Lib.hid hB0
  have HW0 := Lib.hid hW0
  have Hb1 := Lib.hid b0_1
  have hl1 : w.heap.size + 1 < W0.heap.size := by omega
  clear hB0 hW0 b0_0 b0_1 b0_2
  by_cases h2 : kd = 2
  · subst h2
    go_enter Try.func66, Try.ntmps66
    go_upto_region 2 with fail
    rw [← HW0.out]
    go_wp2_with fail
    have hbk : (W0.setCell ⟨w.heap.size + 2, 5, none⟩ (.int .i64 m.pre)).heap[w.heap.size + 1]? = W0.heap[w.heap.size + 1]? := (grown_set W0 (w.heap.size + 2) 5 (.int .i64 m.pre)).block (w.heap.size + 1) (by first | omega | (simp [World.setCell]; omega)) (fun e => by injection e with e; omega)
    have hq := blk_set8 (hbk.trans Hb1.out) (.bool m.pres) (.int .u64 (hi m.val)) (.int .u64 (lo m.val)) (.int .u64 0) (.int .u64 0) (.int .i64 m.pre) (.int .u64 0) (.int .u64 0)
    have q := fun j v h => blk_cell hq j v h
    refine bodyPost_ret (v := .agg #[.bool m.pres, .int .u64 (hi m.val), .int .u64 (lo m.val), .int .u64 0, .int .u64 0, .int .i64 m.pre, .int .u64 0, .int .u64 0]) (by simp [results, Try.results66, go_sem, q 0 _ rfl, q 1 _ rfl, q 2 _ rfl, q 3 _ rfl, q 4 _ rfl, q 5 _ rfl, q 6 _ rfl, q 7 _ rfl]) rfl ?_
    have hu : usedM m 2 = ⟨m.pres, m.val, 0, m.pre, 0⟩ := by simp [usedM]
    refine ⟨?_, HB0.out.trans (?_ : Below _ W0 _)⟩
    · rw [hu]; simp only [hi_z, lo_z]
    · exact ((Below.setCell (Below.refl w.heap.size W0) (by show w.heap.size ≤ w.heap.size + 2; omega) _).trans (below_set8 (B := w.heap.size) (k := w.heap.size + 1) (W0.setCell ⟨w.heap.size + 2, 5, none⟩ (.int .i64 m.pre)) (by omega) _ _ _ _ _ _ _ _))
  · by_cases h3 : kd = 3
    · subst h3
      go_enter Try.func66, Try.ntmps66
      go_upto_region 2 with fail
      rw [← HW0.out]
      go_wp2_with fail
      have hbk : ((W0.setCell ⟨w.heap.size + 2, 3, none⟩ (.int .u64 (hi m.mask))).setCell ⟨w.heap.size + 2, 4, none⟩ (.int .u64 (lo m.mask))).heap[w.heap.size + 1]? = W0.heap[w.heap.size + 1]? := ((grown_set (W0.setCell ⟨w.heap.size + 2, 3, none⟩ (.int .u64 (hi m.mask))) (w.heap.size + 2) 4 (.int .u64 (lo m.mask))).block (w.heap.size + 1) (by first | omega | (simp [World.setCell]; omega)) (fun e => by injection e with e; omega)).trans ((grown_set W0 (w.heap.size + 2) 3 (.int .u64 (hi m.mask))).block (w.heap.size + 1) (by first | omega | (simp [World.setCell]; omega)) (fun e => by injection e with e; omega))
      have hq := blk_set8 (hbk.trans Hb1.out) (.bool m.pres) (.int .u64 (hi m.val)) (.int .u64 (lo m.val)) (.int .u64 (hi m.mask)) (.int .u64 (lo m.mask)) (.int .i64 0) (.int .u64 0) (.int .u64 0)
      have q := fun j v h => blk_cell hq j v h
      refine bodyPost_ret (v := .agg #[.bool m.pres, .int .u64 (hi m.val), .int .u64 (lo m.val), .int .u64 (hi m.mask), .int .u64 (lo m.mask), .int .i64 0, .int .u64 0, .int .u64 0]) (by simp [results, Try.results66, go_sem, q 0 _ rfl, q 1 _ rfl, q 2 _ rfl, q 3 _ rfl, q 4 _ rfl, q 5 _ rfl, q 6 _ rfl, q 7 _ rfl]) rfl ?_
      have hu : usedM m 3 = ⟨m.pres, m.val, m.mask, 0, 0⟩ := by simp [usedM]
      refine ⟨?_, HB0.out.trans (?_ : Below _ W0 _)⟩
      · rw [hu]; simp only [hi_z, lo_z]
      · exact ((Below.setCell (Below.setCell (Below.refl w.heap.size W0) (by show w.heap.size ≤ w.heap.size + 2; omega) _) (by show w.heap.size ≤ w.heap.size + 2; omega) _).trans (below_set8 (B := w.heap.size) (k := w.heap.size + 1) ((W0.setCell ⟨w.heap.size + 2, 3, none⟩ (.int .u64 (hi m.mask))).setCell ⟨w.heap.size + 2, 4, none⟩ (.int .u64 (lo m.mask))) (by omega) _ _ _ _ _ _ _ _))
    · by_cases h4 : kd = 4
      · subst h4
        go_enter Try.func66, Try.ntmps66
        go_upto_region 2 with fail
        rw [← HW0.out]
        go_wp2_with fail
        have hbk : ((W0.setCell ⟨w.heap.size + 2, 6, none⟩ (.int .u64 (hi m.high))).setCell ⟨w.heap.size + 2, 7, none⟩ (.int .u64 (lo m.high))).heap[w.heap.size + 1]? = W0.heap[w.heap.size + 1]? := ((grown_set (W0.setCell ⟨w.heap.size + 2, 6, none⟩ (.int .u64 (hi m.high))) (w.heap.size + 2) 7 (.int .u64 (lo m.high))).block (w.heap.size + 1) (by first | omega | (simp [World.setCell]; omega)) (fun e => by injection e with e; omega)).trans ((grown_set W0 (w.heap.size + 2) 6 (.int .u64 (hi m.high))).block (w.heap.size + 1) (by first | omega | (simp [World.setCell]; omega)) (fun e => by injection e with e; omega))
        have hq := blk_set8 (hbk.trans Hb1.out) (.bool m.pres) (.int .u64 (hi m.val)) (.int .u64 (lo m.val)) (.int .u64 0) (.int .u64 0) (.int .i64 0) (.int .u64 (hi m.high)) (.int .u64 (lo m.high))
        have q := fun j v h => blk_cell hq j v h
        refine bodyPost_ret (v := .agg #[.bool m.pres, .int .u64 (hi m.val), .int .u64 (lo m.val), .int .u64 0, .int .u64 0, .int .i64 0, .int .u64 (hi m.high), .int .u64 (lo m.high)]) (by simp [results, Try.results66, go_sem, q 0 _ rfl, q 1 _ rfl, q 2 _ rfl, q 3 _ rfl, q 4 _ rfl, q 5 _ rfl, q 6 _ rfl, q 7 _ rfl]) rfl ?_
        have hu : usedM m 4 = ⟨m.pres, m.val, 0, 0, m.high⟩ := by simp [usedM]
        refine ⟨?_, HB0.out.trans (?_ : Below _ W0 _)⟩
        · rw [hu]; simp only [hi_z, lo_z]
        · exact ((Below.setCell (Below.setCell (Below.refl w.heap.size W0) (by show w.heap.size ≤ w.heap.size + 2; omega) _) (by show w.heap.size ≤ w.heap.size + 2; omega) _).trans (below_set8 (B := w.heap.size) (k := w.heap.size + 1) ((W0.setCell ⟨w.heap.size + 2, 6, none⟩ (.int .u64 (hi m.high))).setCell ⟨w.heap.size + 2, 7, none⟩ (.int .u64 (lo m.high))) (by omega) _ _ _ _ _ _ _ _))
      ·
        go_enter Try.func66, Try.ntmps66
        go_upto_region 2 with fail
        rw [← HW0.out]
        go_wp2_with fail
        have hbk : W0.heap[w.heap.size + 1]? = W0.heap[w.heap.size + 1]? := rfl
        have hq := blk_set8 (hbk.trans Hb1.out) (.bool m.pres) (.int .u64 (hi m.val)) (.int .u64 (lo m.val)) (.int .u64 0) (.int .u64 0) (.int .i64 0) (.int .u64 0) (.int .u64 0)
        have q := fun j v h => blk_cell hq j v h
        refine bodyPost_ret (v := .agg #[.bool m.pres, .int .u64 (hi m.val), .int .u64 (lo m.val), .int .u64 0, .int .u64 0, .int .i64 0, .int .u64 0, .int .u64 0]) (by simp [results, Try.results66, go_sem, q 0 _ rfl, q 1 _ rfl, q 2 _ rfl, q 3 _ rfl, q 4 _ rfl, q 5 _ rfl, q 6 _ rfl, q 7 _ rfl]) rfl ?_
        have hu : usedM m kd = ⟨m.pres, m.val, 0, 0, 0⟩ := by unfold usedM; rw [if_neg h2, if_neg h3, if_neg h4]
        refine ⟨?_, HB0.out.trans (?_ : Below _ W0 _)⟩
        · rw [hu]; simp only [hi_z, lo_z]
        · exact below_set8 (B := w.heap.size) (k := w.heap.size + 1) W0 (by omega) _ _ _ _ _ _ _ _
theorem used_ok (m : MatchD) (kd : Int) (h : MatchOk m) : MatchOk (usedM m kd) ∧ (usedM m kd).pres = m.pres := by
  obtain ⟨h1, h2, h3, h4⟩ := h
  have z : (0 : Nat) < 2 ^ 128 := by decide
  have i0 : I64 (0 : Int) := ⟨by decide, by decide⟩
  unfold usedM
  split
  · exact ⟨⟨h1, z, z, h4⟩, rfl⟩
  · split
    · exact ⟨⟨h1, h2, z, i0⟩, rfl⟩
    · split
      · exact ⟨⟨h1, z, h3, i0⟩, rfl⟩
      · exact ⟨⟨h1, z, z, i0⟩, rfl⟩
set_option maxRecDepth 100000 in
set_option maxHeartbeats 4000000 in
theorem g_hasForm (m : MatchD) (hm : MatchOk m) (kd : Int) (w : World) : Calls Try.prog 56 #[.agg #[.bool m.pres, .int .u64 (hi m.val), .int .u64 (lo m.val), .int .u64 (hi m.mask), .int .u64 (lo m.mask), .int .i64 m.pre, .int .u64 (hi m.high), .int .u64 (lo m.high)], .int .i64 kd] w (RetX (.bool (decide (formM m kd))) w) := by
  obtain ⟨b, hb⟩ := some_bool (formM m kd)
  rw [dec_of hb]
  have hG := eqG_match
  cases hp : m.pres
  · have hq : ∀ (c : Bool) (_ : c = true ↔ m = mat0) (W : World), (Op.equalIn 10000 75 (.agg #[.bool false, .int .u64 (hi m.val), .int .u64 (lo m.val), .int .u64 (hi m.mask), .int .u64 (lo m.mask), .int .i64 m.pre, .int .u64 (hi m.high), .int .u64 (lo m.high)]) (.agg #[.bool false, .int .u64 0, .int .u64 0, .int .u64 0, .int .u64 0, .int .i64 0, .int .u64 0, .int .u64 0])).run Try.prog W = .ok c W := fun c hc W => by
      have := eqd_match m mat0 (Lib.hid hm.1) (Lib.hid (by decide)) (Lib.hid hm.2.1) (Lib.hid (by decide)) (Lib.hid hm.2.2.1) (Lib.hid (by decide)) c hc W
      rw [hp] at this
      exact this
    have hform : formM m kd ↔ (kd ≠ 1 ∧ m = mat0) := by unfold formM; rw [hp]; simp
    have HF := Lib.hid (hb.trans hform)
    obtain ⟨c, hc⟩ := some_bool (m = mat0)
    have HC := Lib.hid hc
    have hqc := hq c hc
    clear hb hform hq hp hc
    obtain ⟨W0, hW0⟩ : ∃ W, W = (w.alloc (.cells #[.bool false, .int .u64 (hi m.val), .int .u64 (lo m.val), .int .u64 (hi m.mask), .int .u64 (lo m.mask), .int .i64 m.pre, .int .u64 (hi m.high), .int .u64 (lo m.high)] 75)) := ⟨_, rfl⟩
    have hB0 : Below w.heap.size w W0 := by rw [hW0]; exact ((Below.refl w.heap.size w).alloc (by simp <;> omega) _)
    have hz0 : W0.heap.size = w.heap.size + 1 := by rw [hW0]; simp
    have b0_0 : W0.heap[w.heap.size]? = some (.cells #[.bool false, .int .u64 (hi m.val), .int .u64 (lo m.val), .int .u64 (hi m.mask), .int .u64 (lo m.mask), .int .i64 m.pre, .int .u64 (hi m.high), .int .u64 (lo m.high)] 75 (0, 0)) := by
      rw [hW0]
      exact heap_alloc_new _ _
    have c0 : W0.cell? ⟨w.heap.size, 0, none⟩ = some (.bool false) := blk_cell b0_0 0 _ rfl
    have c1 : W0.cell? ⟨w.heap.size, 1, none⟩ = some (.int .u64 (hi m.val)) := blk_cell b0_0 1 _ rfl
    have c2 : W0.cell? ⟨w.heap.size, 2, none⟩ = some (.int .u64 (lo m.val)) := blk_cell b0_0 2 _ rfl
    have c3 : W0.cell? ⟨w.heap.size, 3, none⟩ = some (.int .u64 (hi m.mask)) := blk_cell b0_0 3 _ rfl
    have c4 : W0.cell? ⟨w.heap.size, 4, none⟩ = some (.int .u64 (lo m.mask)) := blk_cell b0_0 4 _ rfl
    have c5 : W0.cell? ⟨w.heap.size, 5, none⟩ = some (.int .i64 m.pre) := blk_cell b0_0 5 _ rfl
    have c6 : W0.cell? ⟨w.heap.size, 6, none⟩ = some (.int .u64 (hi m.high)) := blk_cell b0_0 6 _ rfl
    have c7 : W0.cell? ⟨w.heap.size, 7, none⟩ = some (.int .u64 (lo m.high)) := blk_cell b0_0 7 _ rfl
    have HB0 := Lib.hid hB0
    have HW0 := Lib.hid hW0
    clear hB0 hW0 b0_0
    by_cases hk : kd = 1
    · have hbf : b = false := by
        cases b
        · rfl
        · exact absurd hk (HF.out.1 rfl).1
      subst hbf
      subst hk
      go_enter Try.func56, Try.ntmps56
      go_upto_region 1 with fail
      rw [← HW0.out]
      go_wp2_with fail
      go_ret
      exact ⟨rfl, HB0.out⟩
    · have hbc : b = c := by
        have h1 := HF.out
        have h2 := HC.out
        cases b <;> cases c <;> simp_all
      subst hbc
      go_enter Try.func56, Try.ntmps56
      go_upto_region 1 with fail
      rw [← HW0.out]
      go_wp2_with fail
      go_ret
      exact ⟨by simp [hk], HB0.out⟩
  · obtain ⟨hu1, hu2⟩ := used_ok m kd hm
    have hform : formM m kd ↔ m = usedM m kd := by unfold formM; rw [hp]; simp
    have KU : Hid (∀ W, Calls Try.prog 66 #[.agg #[.bool true, .int .u64 (hi m.val), .int .u64 (lo m.val), .int .u64 (hi m.mask), .int .u64 (lo m.mask), .int .i64 m.pre, .int .u64 (hi m.high), .int .u64 (lo m.high)], .int .i64 kd] W (RetX (.agg #[.bool (usedM m kd).pres, .int .u64 (hi (usedM m kd).val), .int .u64 (lo (usedM m kd).val), .int .u64 (hi (usedM m kd).mask), .int .u64 (lo (usedM m kd).mask), .int .i64 (usedM m kd).pre, .int .u64 (hi (usedM m kd).high), .int .u64 (lo (usedM m kd).high)]) W)) := Lib.hid fun W => by
      have := g_usedOf m kd W
      rw [hp] at this
      exact this
    obtain ⟨u, hu⟩ : ∃ u, u = usedM m kd := ⟨_, rfl⟩
    rw [← hu] at hu1 hu2 KU hform
    have hq : ∀ W : World, (Op.equalIn 10000 75 (.agg #[.bool true, .int .u64 (hi m.val), .int .u64 (lo m.val), .int .u64 (hi m.mask), .int .u64 (lo m.mask), .int .i64 m.pre, .int .u64 (hi m.high), .int .u64 (lo m.high)]) (.agg #[.bool u.pres, .int .u64 (hi u.val), .int .u64 (lo u.val), .int .u64 (hi u.mask), .int .u64 (lo u.mask), .int .i64 u.pre, .int .u64 (hi u.high), .int .u64 (lo u.high)])).run Try.prog W = .ok b W := fun W => by
      have := eqd_match m u (Lib.hid hm.1) (Lib.hid hu1.1) (Lib.hid hm.2.1) (Lib.hid hu1.2.1) (Lib.hid hm.2.2.1) (Lib.hid hu1.2.2.1) b (hb.trans hform) W
      rw [hp] at this
      exact this
    obtain ⟨W0, hW0⟩ : ∃ W, W = (w.alloc (.cells #[.bool true, .int .u64 (hi m.val), .int .u64 (lo m.val), .int .u64 (hi m.mask), .int .u64 (lo m.mask), .int .i64 m.pre, .int .u64 (hi m.high), .int .u64 (lo m.high)] 75)) := ⟨_, rfl⟩
    have hB0 : Below w.heap.size w W0 := by rw [hW0]; exact ((Below.refl w.heap.size w).alloc (by simp <;> omega) _)
    have hz0 : W0.heap.size = w.heap.size + 1 := by rw [hW0]; simp
    have b0_0 : W0.heap[w.heap.size]? = some (.cells #[.bool true, .int .u64 (hi m.val), .int .u64 (lo m.val), .int .u64 (hi m.mask), .int .u64 (lo m.mask), .int .i64 m.pre, .int .u64 (hi m.high), .int .u64 (lo m.high)] 75 (0, 0)) := by
      rw [hW0]
      exact heap_alloc_new _ _
    have HKS : Hid (∀ w', Below W0.heap.size W0 w' → Below W0.heap.size W0 w' ∧ w'.cell? ⟨w.heap.size, 0, none⟩ = some (.bool true) ∧ w'.cell? ⟨w.heap.size, 1, none⟩ = some (.int .u64 (hi m.val)) ∧ w'.cell? ⟨w.heap.size, 2, none⟩ = some (.int .u64 (lo m.val)) ∧ w'.cell? ⟨w.heap.size, 3, none⟩ = some (.int .u64 (hi m.mask)) ∧ w'.cell? ⟨w.heap.size, 4, none⟩ = some (.int .u64 (lo m.mask)) ∧ w'.cell? ⟨w.heap.size, 5, none⟩ = some (.int .i64 m.pre) ∧ w'.cell? ⟨w.heap.size, 6, none⟩ = some (.int .u64 (hi m.high)) ∧ w'.cell? ⟨w.heap.size, 7, none⟩ = some (.int .u64 (lo m.high))) := Lib.hid fun w' hb => by
      have q0 := (hb.block (w.heap.size) (by omega)).trans b0_0
      exact ⟨hb, blk_cell q0 0 _ rfl, blk_cell q0 1 _ rfl, blk_cell q0 2 _ rfl, blk_cell q0 3 _ rfl, blk_cell q0 4 _ rfl, blk_cell q0 5 _ rfl, blk_cell q0 6 _ rfl, blk_cell q0 7 _ rfl⟩
    have c0 : W0.cell? ⟨w.heap.size, 0, none⟩ = some (.bool true) := blk_cell b0_0 0 _ rfl
    have HB0 := Lib.hid hB0
    have HW0 := Lib.hid hW0
    clear hB0 hW0 b0_0 hb hu1 hu2 hu hform hp hm
    go_enter Try.func56, Try.ntmps56
    go_upto_region 3 with fail
    rw [← HW0.out]
    go_region_held3 (fun w' => Below W0.heap.size W0 w' ∧ w'.cell? ⟨w.heap.size, 0, none⟩ = some (.bool true) ∧ w'.cell? ⟨w.heap.size, 1, none⟩ = some (.int .u64 (hi m.val)) ∧ w'.cell? ⟨w.heap.size, 2, none⟩ = some (.int .u64 (lo m.val)) ∧ w'.cell? ⟨w.heap.size, 3, none⟩ = some (.int .u64 (hi m.mask)) ∧ w'.cell? ⟨w.heap.size, 4, none⟩ = some (.int .u64 (lo m.mask)) ∧ w'.cell? ⟨w.heap.size, 5, none⟩ = some (.int .i64 m.pre) ∧ w'.cell? ⟨w.heap.size, 6, none⟩ = some (.int .u64 (hi m.high)) ∧ w'.cell? ⟨w.heap.size, 7, none⟩ = some (.int .u64 (lo m.high)))
      (first
        | exact HKS.out _ (Below.drew (Below.refl _ _))
        | exact HKS.out _ (below_call (And.left (by assumption)) (by assumption))
        | exact HKS.out _ (below_alloc (And.left (by assumption)) _)
        | assumption)
      (first
        | (go_at_call 66; (with_reducible refine (KU.out _).mono ?_); rintro en v1 ⟨rfl, hv1⟩))
    all_goals go_wp2
    all_goals go_ret
    all_goals exact ⟨rfl, HB0.out.trans ((And.left (by assumption : Below W0.heap.size W0 _ ∧ _)).mono HB0.out.size)⟩
theorem cmp_le {a b : Nat} : cmp a b ≤ 0 ↔ a ≤ b := by
  unfold cmp
  by_cases h : a = b
  · subst h; simp
  · by_cases h2 : a < b
    · rw [if_neg h, if_pos h2]; exact ⟨fun _ => Nat.le_of_lt h2, fun _ => by decide⟩
    · rw [if_neg h, if_neg h2]; exact ⟨fun h3 => absurd h3 (by decide), fun h3 => by omega⟩
theorem bool_eq {r c : Bool} {P Q : Prop} (h : r = true ↔ P) (k : c = true ↔ Q) (e : P ↔ Q) : r = c := by
  cases r <;> cases c <;> simp_all
theorem bool_no {r : Bool} {P : Prop} (h : r = true ↔ P) (e : ¬ P) : r = false := by
  cases r
  · rfl
  · exact absurd (h.1 rfl) e
set_option maxRecDepth 100000 in
set_option maxHeartbeats 4000000 in
theorem g_hasFit (m : MatchD) (hm : MatchOk m) (kd b : Int) (w : World) : Calls Try.prog 57 #[.agg #[.bool m.pres, .int .u64 (hi m.val), .int .u64 (lo m.val), .int .u64 (hi m.mask), .int .u64 (lo m.mask), .int .i64 m.pre, .int .u64 (hi m.high), .int .u64 (lo m.high)], .int .i64 kd, .int .i64 b] w (RetX (.bool (decide (fitM m kd b))) w) := by
  obtain ⟨r, hr⟩ := some_bool (fitM m kd b)
  rw [dec_of hr]
  have HR := Lib.hid hr
  have HM := Lib.hid hm
  clear hr hm
  obtain ⟨W0, hW0⟩ : ∃ W, W = (w.alloc (.cells #[.bool m.pres, .int .u64 (hi m.val), .int .u64 (lo m.val), .int .u64 (hi m.mask), .int .u64 (lo m.mask), .int .i64 m.pre, .int .u64 (hi m.high), .int .u64 (lo m.high)] 75)) := ⟨_, rfl⟩
  have hB0 : Below w.heap.size w W0 := by rw [hW0]; exact ((Below.refl w.heap.size w).alloc (by simp <;> omega) _)
  have hz0 : W0.heap.size = w.heap.size + 1 := by rw [hW0]; simp
  have b0_0 : W0.heap[w.heap.size]? = some (.cells #[.bool m.pres, .int .u64 (hi m.val), .int .u64 (lo m.val), .int .u64 (hi m.mask), .int .u64 (lo m.mask), .int .i64 m.pre, .int .u64 (hi m.high), .int .u64 (lo m.high)] 75 (0, 0)) := by
    rw [hW0]
    exact heap_alloc_new _ _
  have c0 : W0.cell? ⟨w.heap.size, 0, none⟩ = some (.bool m.pres) := blk_cell b0_0 0 _ rfl
  have c1 : W0.cell? ⟨w.heap.size, 1, none⟩ = some (.int .u64 (hi m.val)) := blk_cell b0_0 1 _ rfl
  have c2 : W0.cell? ⟨w.heap.size, 2, none⟩ = some (.int .u64 (lo m.val)) := blk_cell b0_0 2 _ rfl
  have c3 : W0.cell? ⟨w.heap.size, 3, none⟩ = some (.int .u64 (hi m.mask)) := blk_cell b0_0 3 _ rfl
  have c4 : W0.cell? ⟨w.heap.size, 4, none⟩ = some (.int .u64 (lo m.mask)) := blk_cell b0_0 4 _ rfl
  have c5 : W0.cell? ⟨w.heap.size, 5, none⟩ = some (.int .i64 m.pre) := blk_cell b0_0 5 _ rfl
  have c6 : W0.cell? ⟨w.heap.size, 6, none⟩ = some (.int .u64 (hi m.high)) := blk_cell b0_0 6 _ rfl
  have c7 : W0.cell? ⟨w.heap.size, 7, none⟩ = some (.int .u64 (lo m.high)) := blk_cell b0_0 7 _ rfl
  have HB0 := Lib.hid hB0
  have HW0 := Lib.hid hW0
  have BB0 := Lib.hid b0_0
  clear hB0 hW0 b0_0
  by_cases f1 : (bitLen m.val : Int) ≤ b
  · by_cases f2 : (bitLen m.mask : Int) ≤ b
    · by_cases f3 : (bitLen m.high : Int) ≤ b
      · by_cases h2 : kd = 2
        · subst h2
          go_enter Try.func57, Try.ntmps57
          go_wp2_with fail
          rw [← HW0.out]
          refine (fits_any _ _ HM.out.1 _).mono ?_
          rintro en w1 ⟨rfl, hv1⟩
          rw [decide_eq_true f1]
          have HB1 := Lib.hid (HB0.out.trans (hv1.mono HB0.out.size))
          have hz1 : w.heap.size + 1 ≤ w1.heap.size := by have := hv1.size; omega
          have BB1 := Lib.hid ((hv1.block w.heap.size (by omega)).trans BB0.out)
          clear hv1 c0 c1 c2 c3 c4 c5 c6 c7
          have c0 : w1.cell? ⟨w.heap.size, 0, none⟩ = some (.bool m.pres) := blk_cell BB1.out 0 _ rfl
          have c1 : w1.cell? ⟨w.heap.size, 1, none⟩ = some (.int .u64 (hi m.val)) := blk_cell BB1.out 1 _ rfl
          have c2 : w1.cell? ⟨w.heap.size, 2, none⟩ = some (.int .u64 (lo m.val)) := blk_cell BB1.out 2 _ rfl
          have c3 : w1.cell? ⟨w.heap.size, 3, none⟩ = some (.int .u64 (hi m.mask)) := blk_cell BB1.out 3 _ rfl
          have c4 : w1.cell? ⟨w.heap.size, 4, none⟩ = some (.int .u64 (lo m.mask)) := blk_cell BB1.out 4 _ rfl
          have c5 : w1.cell? ⟨w.heap.size, 5, none⟩ = some (.int .i64 m.pre) := blk_cell BB1.out 5 _ rfl
          have c6 : w1.cell? ⟨w.heap.size, 6, none⟩ = some (.int .u64 (hi m.high)) := blk_cell BB1.out 6 _ rfl
          have c7 : w1.cell? ⟨w.heap.size, 7, none⟩ = some (.int .u64 (lo m.high)) := blk_cell BB1.out 7 _ rfl
          go_wp2_with fail
          refine (fits_any _ _ HM.out.2.1 _).mono ?_
          rintro en w2 ⟨rfl, hv2⟩
          rw [decide_eq_true f2]
          have HB2 := Lib.hid (HB1.out.trans (hv2.mono HB1.out.size))
          have hz2 : w.heap.size + 1 ≤ w2.heap.size := by have := hv2.size; omega
          have BB2 := Lib.hid ((hv2.block w.heap.size (by omega)).trans BB1.out)
          clear hv2 c0 c1 c2 c3 c4 c5 c6 c7
          have c0 : w2.cell? ⟨w.heap.size, 0, none⟩ = some (.bool m.pres) := blk_cell BB2.out 0 _ rfl
          have c1 : w2.cell? ⟨w.heap.size, 1, none⟩ = some (.int .u64 (hi m.val)) := blk_cell BB2.out 1 _ rfl
          have c2 : w2.cell? ⟨w.heap.size, 2, none⟩ = some (.int .u64 (lo m.val)) := blk_cell BB2.out 2 _ rfl
          have c3 : w2.cell? ⟨w.heap.size, 3, none⟩ = some (.int .u64 (hi m.mask)) := blk_cell BB2.out 3 _ rfl
          have c4 : w2.cell? ⟨w.heap.size, 4, none⟩ = some (.int .u64 (lo m.mask)) := blk_cell BB2.out 4 _ rfl
          have c5 : w2.cell? ⟨w.heap.size, 5, none⟩ = some (.int .i64 m.pre) := blk_cell BB2.out 5 _ rfl
          have c6 : w2.cell? ⟨w.heap.size, 6, none⟩ = some (.int .u64 (hi m.high)) := blk_cell BB2.out 6 _ rfl
          have c7 : w2.cell? ⟨w.heap.size, 7, none⟩ = some (.int .u64 (lo m.high)) := blk_cell BB2.out 7 _ rfl
          go_wp2_with fail
          refine (fits_any _ _ HM.out.2.2.1 _).mono ?_
          rintro en w3 ⟨rfl, hv3⟩
          rw [decide_eq_true f3]
          have HB3 := Lib.hid (HB2.out.trans (hv3.mono HB2.out.size))
          have hz3 : w.heap.size + 1 ≤ w3.heap.size := by have := hv3.size; omega
          have BB3 := Lib.hid ((hv3.block w.heap.size (by omega)).trans BB2.out)
          clear hv3 c0 c1 c2 c3 c4 c5 c6 c7
          have c0 : w3.cell? ⟨w.heap.size, 0, none⟩ = some (.bool m.pres) := blk_cell BB3.out 0 _ rfl
          have c1 : w3.cell? ⟨w.heap.size, 1, none⟩ = some (.int .u64 (hi m.val)) := blk_cell BB3.out 1 _ rfl
          have c2 : w3.cell? ⟨w.heap.size, 2, none⟩ = some (.int .u64 (lo m.val)) := blk_cell BB3.out 2 _ rfl
          have c3 : w3.cell? ⟨w.heap.size, 3, none⟩ = some (.int .u64 (hi m.mask)) := blk_cell BB3.out 3 _ rfl
          have c4 : w3.cell? ⟨w.heap.size, 4, none⟩ = some (.int .u64 (lo m.mask)) := blk_cell BB3.out 4 _ rfl
          have c5 : w3.cell? ⟨w.heap.size, 5, none⟩ = some (.int .i64 m.pre) := blk_cell BB3.out 5 _ rfl
          have c6 : w3.cell? ⟨w.heap.size, 6, none⟩ = some (.int .u64 (hi m.high)) := blk_cell BB3.out 6 _ rfl
          have c7 : w3.cell? ⟨w.heap.size, 7, none⟩ = some (.int .u64 (lo m.high)) := blk_cell BB3.out 7 _ rfl
          obtain ⟨W4, hW4⟩ : ∃ W, W = w3.alloc (.cells #[.int .u64 0, .int .u64 0] 29) := ⟨_, rfl⟩
          have hv4 : Below w3.heap.size w3 W4 := by rw [hW4]; exact (Below.refl _ _).alloc (Nat.le_refl _) _
          have hz4 : W4.heap.size = w3.heap.size + 1 := by rw [hW4]; simp
          have b4_0 := (hv4.block w.heap.size (by omega)).trans BB3.out
          have b4_1 : W4.heap[w3.heap.size]? = some (.cells #[.int .u64 0, .int .u64 0] 29 (0, 0)) := by rw [hW4]; exact heap_alloc_new _ _
          have HB4 := Lib.hid (HB3.out.trans (hv4.mono HB3.out.size))
          have HW4 := Lib.hid hW4
          have B40 := Lib.hid b4_0
          have B41 := Lib.hid b4_1
          clear hv4 hW4 c0 c1 c2 c3 c4 c5 c6 c7
          have c0 : W4.cell? ⟨w.heap.size, 0, none⟩ = some (.bool m.pres) := blk_cell B40.out 0 _ rfl
          have c1 : W4.cell? ⟨w.heap.size, 1, none⟩ = some (.int .u64 (hi m.val)) := blk_cell B40.out 1 _ rfl
          have c2 : W4.cell? ⟨w.heap.size, 2, none⟩ = some (.int .u64 (lo m.val)) := blk_cell B40.out 2 _ rfl
          have c3 : W4.cell? ⟨w.heap.size, 3, none⟩ = some (.int .u64 (hi m.mask)) := blk_cell B40.out 3 _ rfl
          have c4 : W4.cell? ⟨w.heap.size, 4, none⟩ = some (.int .u64 (lo m.mask)) := blk_cell B40.out 4 _ rfl
          have c5 : W4.cell? ⟨w.heap.size, 5, none⟩ = some (.int .i64 m.pre) := blk_cell B40.out 5 _ rfl
          have c6 : W4.cell? ⟨w.heap.size, 6, none⟩ = some (.int .u64 (hi m.high)) := blk_cell B40.out 6 _ rfl
          have c7 : W4.cell? ⟨w.heap.size, 7, none⟩ = some (.int .u64 (lo m.high)) := blk_cell B40.out 7 _ rfl
          have z0 : W4.cell? ⟨w3.heap.size, 0, none⟩ = some (.int .u64 0) := blk_cell B41.out 0 _ rfl
          have z1 : W4.cell? ⟨w3.heap.size, 1, none⟩ = some (.int .u64 0) := blk_cell B41.out 1 _ rfl
          clear b4_0 b4_1
          go_wp2_with fail
          rw [← HW4.out]
          by_cases g1 : 1 ≤ m.pre
          · by_cases g2 : m.pre ≤ b
            · obtain ⟨L, hL⟩ : ∃ L, L = lead b m.pre := ⟨_, rfl⟩
              obtain ⟨c, hc⟩ := some_bool (m.val &&& L = m.val)
              obtain rfl : r = c := bool_eq HR.out hc (by unfold fitM kindM; rw [if_pos rfl, ← hL]; exact ⟨fun h => h.2.2.2, fun h => ⟨⟨f1, f2, f3⟩, g1, g2, h⟩⟩)
              have KL : Hid (∀ W, Calls Try.prog 52 #[.int .i64 b, .int .i64 m.pre] W (RetV L W)) := Lib.hid fun W => by rw [hL]; exact leading_any b m.pre W
              have KW : Hid (∀ W, Calls Try.prog 68 #[.agg #[.int .u64 (hi m.val), .int .u64 (lo m.val)], .agg #[.int .u64 (hi L), .int .u64 (lo L)]] W (RetX (.bool r) W)) := Lib.hid fun W => by rw [← dec_of hc]; exact g_isWithin m.val L HM.out.1 W
              clear hL hc
              have HKS : Hid (∀ w', Below W4.heap.size W4 w' → Below W4.heap.size W4 w' ∧ w'.cell? ⟨w.heap.size, 0, none⟩ = some (.bool m.pres) ∧ w'.cell? ⟨w.heap.size, 1, none⟩ = some (.int .u64 (hi m.val)) ∧ w'.cell? ⟨w.heap.size, 2, none⟩ = some (.int .u64 (lo m.val)) ∧ w'.cell? ⟨w.heap.size, 3, none⟩ = some (.int .u64 (hi m.mask)) ∧ w'.cell? ⟨w.heap.size, 4, none⟩ = some (.int .u64 (lo m.mask)) ∧ w'.cell? ⟨w.heap.size, 5, none⟩ = some (.int .i64 m.pre) ∧ w'.cell? ⟨w.heap.size, 6, none⟩ = some (.int .u64 (hi m.high)) ∧ w'.cell? ⟨w.heap.size, 7, none⟩ = some (.int .u64 (lo m.high)) ∧ w'.cell? ⟨w3.heap.size, 0, none⟩ = some (.int .u64 0) ∧ w'.cell? ⟨w3.heap.size, 1, none⟩ = some (.int .u64 0)) := Lib.hid fun w' hb => by
                have q0 := (hb.block (w.heap.size) (by omega)).trans B40.out
                have q1 := (hb.block (w3.heap.size) (by omega)).trans B41.out
                exact ⟨hb, blk_cell q0 0 _ rfl, blk_cell q0 1 _ rfl, blk_cell q0 2 _ rfl, blk_cell q0 3 _ rfl, blk_cell q0 4 _ rfl, blk_cell q0 5 _ rfl, blk_cell q0 6 _ rfl, blk_cell q0 7 _ rfl, blk_cell q1 0 _ rfl, blk_cell q1 1 _ rfl⟩
              go_region_held3 (fun w' => Below W4.heap.size W4 w' ∧ w'.cell? ⟨w.heap.size, 0, none⟩ = some (.bool m.pres) ∧ w'.cell? ⟨w.heap.size, 1, none⟩ = some (.int .u64 (hi m.val)) ∧ w'.cell? ⟨w.heap.size, 2, none⟩ = some (.int .u64 (lo m.val)) ∧ w'.cell? ⟨w.heap.size, 3, none⟩ = some (.int .u64 (hi m.mask)) ∧ w'.cell? ⟨w.heap.size, 4, none⟩ = some (.int .u64 (lo m.mask)) ∧ w'.cell? ⟨w.heap.size, 5, none⟩ = some (.int .i64 m.pre) ∧ w'.cell? ⟨w.heap.size, 6, none⟩ = some (.int .u64 (hi m.high)) ∧ w'.cell? ⟨w.heap.size, 7, none⟩ = some (.int .u64 (lo m.high)) ∧ w'.cell? ⟨w3.heap.size, 0, none⟩ = some (.int .u64 0) ∧ w'.cell? ⟨w3.heap.size, 1, none⟩ = some (.int .u64 0))
                (first
                  | exact HKS.out _ (Below.drew (Below.refl _ _))
                  | exact HKS.out _ (below_call (And.left (by assumption)) (by assumption))
                  | exact HKS.out _ (below_alloc (And.left (by assumption)) _)
                  | assumption)
                (first
                  | (go_at_call 52; (with_reducible refine (KL.out _).mono ?_); rintro en v1 ⟨rfl, hv1⟩)
                  | (go_at_call 68; (with_reducible refine (KW.out _).mono ?_); rintro en v2 ⟨rfl, hv2⟩))
              all_goals go_wp2
              all_goals go_ret
              all_goals exact ⟨rfl, HB4.out.trans ((And.left (by assumption : Below W4.heap.size W4 _ ∧ _)).mono HB4.out.size)⟩
            · obtain rfl : r = false := bool_no HR.out (by unfold fitM kindM; rw [if_pos rfl]; exact fun h => g2 h.2.2.1)
              go_quiet (fail)
              go_wp2
              go_ret
              exact ⟨rfl, HB4.out.trans (below_dn _ _ _)⟩
          · obtain rfl : r = false := bool_no HR.out (by unfold fitM kindM; rw [if_pos rfl]; exact fun h => g1 h.2.1)
            go_quiet (fail)
            go_wp2
            go_ret
            exact ⟨rfl, HB4.out.trans (below_dn _ _ _)⟩
        · by_cases h3 : kd = 3
          · subst h3
            go_enter Try.func57, Try.ntmps57
            go_wp2_with fail
            rw [← HW0.out]
            refine (fits_any _ _ HM.out.1 _).mono ?_
            rintro en w1 ⟨rfl, hv1⟩
            rw [decide_eq_true f1]
            have HB1 := Lib.hid (HB0.out.trans (hv1.mono HB0.out.size))
            have hz1 : w.heap.size + 1 ≤ w1.heap.size := by have := hv1.size; omega
            have BB1 := Lib.hid ((hv1.block w.heap.size (by omega)).trans BB0.out)
            clear hv1 c0 c1 c2 c3 c4 c5 c6 c7
            have c0 : w1.cell? ⟨w.heap.size, 0, none⟩ = some (.bool m.pres) := blk_cell BB1.out 0 _ rfl
            have c1 : w1.cell? ⟨w.heap.size, 1, none⟩ = some (.int .u64 (hi m.val)) := blk_cell BB1.out 1 _ rfl
            have c2 : w1.cell? ⟨w.heap.size, 2, none⟩ = some (.int .u64 (lo m.val)) := blk_cell BB1.out 2 _ rfl
            have c3 : w1.cell? ⟨w.heap.size, 3, none⟩ = some (.int .u64 (hi m.mask)) := blk_cell BB1.out 3 _ rfl
            have c4 : w1.cell? ⟨w.heap.size, 4, none⟩ = some (.int .u64 (lo m.mask)) := blk_cell BB1.out 4 _ rfl
            have c5 : w1.cell? ⟨w.heap.size, 5, none⟩ = some (.int .i64 m.pre) := blk_cell BB1.out 5 _ rfl
            have c6 : w1.cell? ⟨w.heap.size, 6, none⟩ = some (.int .u64 (hi m.high)) := blk_cell BB1.out 6 _ rfl
            have c7 : w1.cell? ⟨w.heap.size, 7, none⟩ = some (.int .u64 (lo m.high)) := blk_cell BB1.out 7 _ rfl
            go_wp2_with fail
            refine (fits_any _ _ HM.out.2.1 _).mono ?_
            rintro en w2 ⟨rfl, hv2⟩
            rw [decide_eq_true f2]
            have HB2 := Lib.hid (HB1.out.trans (hv2.mono HB1.out.size))
            have hz2 : w.heap.size + 1 ≤ w2.heap.size := by have := hv2.size; omega
            have BB2 := Lib.hid ((hv2.block w.heap.size (by omega)).trans BB1.out)
            clear hv2 c0 c1 c2 c3 c4 c5 c6 c7
            have c0 : w2.cell? ⟨w.heap.size, 0, none⟩ = some (.bool m.pres) := blk_cell BB2.out 0 _ rfl
            have c1 : w2.cell? ⟨w.heap.size, 1, none⟩ = some (.int .u64 (hi m.val)) := blk_cell BB2.out 1 _ rfl
            have c2 : w2.cell? ⟨w.heap.size, 2, none⟩ = some (.int .u64 (lo m.val)) := blk_cell BB2.out 2 _ rfl
            have c3 : w2.cell? ⟨w.heap.size, 3, none⟩ = some (.int .u64 (hi m.mask)) := blk_cell BB2.out 3 _ rfl
            have c4 : w2.cell? ⟨w.heap.size, 4, none⟩ = some (.int .u64 (lo m.mask)) := blk_cell BB2.out 4 _ rfl
            have c5 : w2.cell? ⟨w.heap.size, 5, none⟩ = some (.int .i64 m.pre) := blk_cell BB2.out 5 _ rfl
            have c6 : w2.cell? ⟨w.heap.size, 6, none⟩ = some (.int .u64 (hi m.high)) := blk_cell BB2.out 6 _ rfl
            have c7 : w2.cell? ⟨w.heap.size, 7, none⟩ = some (.int .u64 (lo m.high)) := blk_cell BB2.out 7 _ rfl
            go_wp2_with fail
            refine (fits_any _ _ HM.out.2.2.1 _).mono ?_
            rintro en w3 ⟨rfl, hv3⟩
            rw [decide_eq_true f3]
            have HB3 := Lib.hid (HB2.out.trans (hv3.mono HB2.out.size))
            have hz3 : w.heap.size + 1 ≤ w3.heap.size := by have := hv3.size; omega
            have BB3 := Lib.hid ((hv3.block w.heap.size (by omega)).trans BB2.out)
            clear hv3 c0 c1 c2 c3 c4 c5 c6 c7
            have c0 : w3.cell? ⟨w.heap.size, 0, none⟩ = some (.bool m.pres) := blk_cell BB3.out 0 _ rfl
            have c1 : w3.cell? ⟨w.heap.size, 1, none⟩ = some (.int .u64 (hi m.val)) := blk_cell BB3.out 1 _ rfl
            have c2 : w3.cell? ⟨w.heap.size, 2, none⟩ = some (.int .u64 (lo m.val)) := blk_cell BB3.out 2 _ rfl
            have c3 : w3.cell? ⟨w.heap.size, 3, none⟩ = some (.int .u64 (hi m.mask)) := blk_cell BB3.out 3 _ rfl
            have c4 : w3.cell? ⟨w.heap.size, 4, none⟩ = some (.int .u64 (lo m.mask)) := blk_cell BB3.out 4 _ rfl
            have c5 : w3.cell? ⟨w.heap.size, 5, none⟩ = some (.int .i64 m.pre) := blk_cell BB3.out 5 _ rfl
            have c6 : w3.cell? ⟨w.heap.size, 6, none⟩ = some (.int .u64 (hi m.high)) := blk_cell BB3.out 6 _ rfl
            have c7 : w3.cell? ⟨w.heap.size, 7, none⟩ = some (.int .u64 (lo m.high)) := blk_cell BB3.out 7 _ rfl
            obtain ⟨W4, hW4⟩ : ∃ W, W = w3.alloc (.cells #[.int .u64 0, .int .u64 0] 29) := ⟨_, rfl⟩
            have hv4 : Below w3.heap.size w3 W4 := by rw [hW4]; exact (Below.refl _ _).alloc (Nat.le_refl _) _
            have hz4 : W4.heap.size = w3.heap.size + 1 := by rw [hW4]; simp
            have b4_0 := (hv4.block w.heap.size (by omega)).trans BB3.out
            have b4_1 : W4.heap[w3.heap.size]? = some (.cells #[.int .u64 0, .int .u64 0] 29 (0, 0)) := by rw [hW4]; exact heap_alloc_new _ _
            have HB4 := Lib.hid (HB3.out.trans (hv4.mono HB3.out.size))
            have HW4 := Lib.hid hW4
            have B40 := Lib.hid b4_0
            have B41 := Lib.hid b4_1
            clear hv4 hW4 c0 c1 c2 c3 c4 c5 c6 c7
            have c0 : W4.cell? ⟨w.heap.size, 0, none⟩ = some (.bool m.pres) := blk_cell B40.out 0 _ rfl
            have c1 : W4.cell? ⟨w.heap.size, 1, none⟩ = some (.int .u64 (hi m.val)) := blk_cell B40.out 1 _ rfl
            have c2 : W4.cell? ⟨w.heap.size, 2, none⟩ = some (.int .u64 (lo m.val)) := blk_cell B40.out 2 _ rfl
            have c3 : W4.cell? ⟨w.heap.size, 3, none⟩ = some (.int .u64 (hi m.mask)) := blk_cell B40.out 3 _ rfl
            have c4 : W4.cell? ⟨w.heap.size, 4, none⟩ = some (.int .u64 (lo m.mask)) := blk_cell B40.out 4 _ rfl
            have c5 : W4.cell? ⟨w.heap.size, 5, none⟩ = some (.int .i64 m.pre) := blk_cell B40.out 5 _ rfl
            have c6 : W4.cell? ⟨w.heap.size, 6, none⟩ = some (.int .u64 (hi m.high)) := blk_cell B40.out 6 _ rfl
            have c7 : W4.cell? ⟨w.heap.size, 7, none⟩ = some (.int .u64 (lo m.high)) := blk_cell B40.out 7 _ rfl
            have z0 : W4.cell? ⟨w3.heap.size, 0, none⟩ = some (.int .u64 0) := blk_cell B41.out 0 _ rfl
            have z1 : W4.cell? ⟨w3.heap.size, 1, none⟩ = some (.int .u64 0) := blk_cell B41.out 1 _ rfl
            clear b4_0 b4_1
            have hG := eqG_val
            have hqz : ∀ (z : Bool) (_ : z = true ↔ m.mask = 0) (W : World), (Op.equalIn 10000 29 (.agg #[.int .u64 (hi m.mask), .int .u64 (lo m.mask)]) (.agg #[.int .u64 0, .int .u64 0])).run Try.prog W = .ok z W := fun z hz W => eqd_val m.mask 0 (Lib.hid HM.out.2.1) (Lib.hid (by decide)) z hz W
            by_cases h0 : m.mask = 0
            · obtain rfl : r = false := bool_no HR.out (by unfold fitM kindM; rw [if_neg (by decide), if_pos rfl]; exact fun h => h.2.1 h0)
              have hqc := hqz true (by simp [h0])
              clear hqz h0
              go_upto_region 8 with fail
              rw [← HW4.out]
              go_wp2_with fail
              go_ret
              exact ⟨rfl, HB4.out⟩
            · have hqc := hqz false (by simp [h0])
              obtain ⟨c, hc⟩ := some_bool (m.val &&& m.mask = m.val)
              obtain rfl : r = c := bool_eq HR.out hc (by unfold fitM kindM; rw [if_neg (by decide), if_pos rfl]; exact ⟨fun h => h.2.2, fun h => ⟨⟨f1, f2, f3⟩, h0, h⟩⟩)
              clear hqz
              have KW : Hid (∀ W, Calls Try.prog 68 #[.agg #[.int .u64 (hi m.val), .int .u64 (lo m.val)], .agg #[.int .u64 (hi m.mask), .int .u64 (lo m.mask)]] W (RetX (.bool r) W)) := Lib.hid fun W => by rw [← dec_of hc]; exact g_isWithin m.val m.mask HM.out.1 W
              clear hc
              go_upto_region 8 with fail
              rw [← HW4.out]
              go_wp2_with fail
              refine (KW.out _).mono ?_
              rintro en w5 ⟨rfl, hv5⟩
              have HB5 := Lib.hid (HB4.out.trans (hv5.mono HB4.out.size))
              clear hv5
              go_wp2_with fail
              go_ret
              exact ⟨rfl, HB5.out⟩
          · by_cases h4 : kd = 4
            · subst h4
              go_enter Try.func57, Try.ntmps57
              go_wp2_with fail
              rw [← HW0.out]
              refine (fits_any _ _ HM.out.1 _).mono ?_
              rintro en w1 ⟨rfl, hv1⟩
              rw [decide_eq_true f1]
              have HB1 := Lib.hid (HB0.out.trans (hv1.mono HB0.out.size))
              have hz1 : w.heap.size + 1 ≤ w1.heap.size := by have := hv1.size; omega
              have BB1 := Lib.hid ((hv1.block w.heap.size (by omega)).trans BB0.out)
              clear hv1 c0 c1 c2 c3 c4 c5 c6 c7
              have c0 : w1.cell? ⟨w.heap.size, 0, none⟩ = some (.bool m.pres) := blk_cell BB1.out 0 _ rfl
              have c1 : w1.cell? ⟨w.heap.size, 1, none⟩ = some (.int .u64 (hi m.val)) := blk_cell BB1.out 1 _ rfl
              have c2 : w1.cell? ⟨w.heap.size, 2, none⟩ = some (.int .u64 (lo m.val)) := blk_cell BB1.out 2 _ rfl
              have c3 : w1.cell? ⟨w.heap.size, 3, none⟩ = some (.int .u64 (hi m.mask)) := blk_cell BB1.out 3 _ rfl
              have c4 : w1.cell? ⟨w.heap.size, 4, none⟩ = some (.int .u64 (lo m.mask)) := blk_cell BB1.out 4 _ rfl
              have c5 : w1.cell? ⟨w.heap.size, 5, none⟩ = some (.int .i64 m.pre) := blk_cell BB1.out 5 _ rfl
              have c6 : w1.cell? ⟨w.heap.size, 6, none⟩ = some (.int .u64 (hi m.high)) := blk_cell BB1.out 6 _ rfl
              have c7 : w1.cell? ⟨w.heap.size, 7, none⟩ = some (.int .u64 (lo m.high)) := blk_cell BB1.out 7 _ rfl
              go_wp2_with fail
              refine (fits_any _ _ HM.out.2.1 _).mono ?_
              rintro en w2 ⟨rfl, hv2⟩
              rw [decide_eq_true f2]
              have HB2 := Lib.hid (HB1.out.trans (hv2.mono HB1.out.size))
              have hz2 : w.heap.size + 1 ≤ w2.heap.size := by have := hv2.size; omega
              have BB2 := Lib.hid ((hv2.block w.heap.size (by omega)).trans BB1.out)
              clear hv2 c0 c1 c2 c3 c4 c5 c6 c7
              have c0 : w2.cell? ⟨w.heap.size, 0, none⟩ = some (.bool m.pres) := blk_cell BB2.out 0 _ rfl
              have c1 : w2.cell? ⟨w.heap.size, 1, none⟩ = some (.int .u64 (hi m.val)) := blk_cell BB2.out 1 _ rfl
              have c2 : w2.cell? ⟨w.heap.size, 2, none⟩ = some (.int .u64 (lo m.val)) := blk_cell BB2.out 2 _ rfl
              have c3 : w2.cell? ⟨w.heap.size, 3, none⟩ = some (.int .u64 (hi m.mask)) := blk_cell BB2.out 3 _ rfl
              have c4 : w2.cell? ⟨w.heap.size, 4, none⟩ = some (.int .u64 (lo m.mask)) := blk_cell BB2.out 4 _ rfl
              have c5 : w2.cell? ⟨w.heap.size, 5, none⟩ = some (.int .i64 m.pre) := blk_cell BB2.out 5 _ rfl
              have c6 : w2.cell? ⟨w.heap.size, 6, none⟩ = some (.int .u64 (hi m.high)) := blk_cell BB2.out 6 _ rfl
              have c7 : w2.cell? ⟨w.heap.size, 7, none⟩ = some (.int .u64 (lo m.high)) := blk_cell BB2.out 7 _ rfl
              go_wp2_with fail
              refine (fits_any _ _ HM.out.2.2.1 _).mono ?_
              rintro en w3 ⟨rfl, hv3⟩
              rw [decide_eq_true f3]
              have HB3 := Lib.hid (HB2.out.trans (hv3.mono HB2.out.size))
              have hz3 : w.heap.size + 1 ≤ w3.heap.size := by have := hv3.size; omega
              have BB3 := Lib.hid ((hv3.block w.heap.size (by omega)).trans BB2.out)
              clear hv3 c0 c1 c2 c3 c4 c5 c6 c7
              have c0 : w3.cell? ⟨w.heap.size, 0, none⟩ = some (.bool m.pres) := blk_cell BB3.out 0 _ rfl
              have c1 : w3.cell? ⟨w.heap.size, 1, none⟩ = some (.int .u64 (hi m.val)) := blk_cell BB3.out 1 _ rfl
              have c2 : w3.cell? ⟨w.heap.size, 2, none⟩ = some (.int .u64 (lo m.val)) := blk_cell BB3.out 2 _ rfl
              have c3 : w3.cell? ⟨w.heap.size, 3, none⟩ = some (.int .u64 (hi m.mask)) := blk_cell BB3.out 3 _ rfl
              have c4 : w3.cell? ⟨w.heap.size, 4, none⟩ = some (.int .u64 (lo m.mask)) := blk_cell BB3.out 4 _ rfl
              have c5 : w3.cell? ⟨w.heap.size, 5, none⟩ = some (.int .i64 m.pre) := blk_cell BB3.out 5 _ rfl
              have c6 : w3.cell? ⟨w.heap.size, 6, none⟩ = some (.int .u64 (hi m.high)) := blk_cell BB3.out 6 _ rfl
              have c7 : w3.cell? ⟨w.heap.size, 7, none⟩ = some (.int .u64 (lo m.high)) := blk_cell BB3.out 7 _ rfl
              obtain ⟨W4, hW4⟩ : ∃ W, W = w3.alloc (.cells #[.int .u64 0, .int .u64 0] 29) := ⟨_, rfl⟩
              have hv4 : Below w3.heap.size w3 W4 := by rw [hW4]; exact (Below.refl _ _).alloc (Nat.le_refl _) _
              have hz4 : W4.heap.size = w3.heap.size + 1 := by rw [hW4]; simp
              have b4_0 := (hv4.block w.heap.size (by omega)).trans BB3.out
              have b4_1 : W4.heap[w3.heap.size]? = some (.cells #[.int .u64 0, .int .u64 0] 29 (0, 0)) := by rw [hW4]; exact heap_alloc_new _ _
              have HB4 := Lib.hid (HB3.out.trans (hv4.mono HB3.out.size))
              have HW4 := Lib.hid hW4
              have B40 := Lib.hid b4_0
              have B41 := Lib.hid b4_1
              clear hv4 hW4 c0 c1 c2 c3 c4 c5 c6 c7
              have c0 : W4.cell? ⟨w.heap.size, 0, none⟩ = some (.bool m.pres) := blk_cell B40.out 0 _ rfl
              have c1 : W4.cell? ⟨w.heap.size, 1, none⟩ = some (.int .u64 (hi m.val)) := blk_cell B40.out 1 _ rfl
              have c2 : W4.cell? ⟨w.heap.size, 2, none⟩ = some (.int .u64 (lo m.val)) := blk_cell B40.out 2 _ rfl
              have c3 : W4.cell? ⟨w.heap.size, 3, none⟩ = some (.int .u64 (hi m.mask)) := blk_cell B40.out 3 _ rfl
              have c4 : W4.cell? ⟨w.heap.size, 4, none⟩ = some (.int .u64 (lo m.mask)) := blk_cell B40.out 4 _ rfl
              have c5 : W4.cell? ⟨w.heap.size, 5, none⟩ = some (.int .i64 m.pre) := blk_cell B40.out 5 _ rfl
              have c6 : W4.cell? ⟨w.heap.size, 6, none⟩ = some (.int .u64 (hi m.high)) := blk_cell B40.out 6 _ rfl
              have c7 : W4.cell? ⟨w.heap.size, 7, none⟩ = some (.int .u64 (lo m.high)) := blk_cell B40.out 7 _ rfl
              have z0 : W4.cell? ⟨w3.heap.size, 0, none⟩ = some (.int .u64 0) := blk_cell B41.out 0 _ rfl
              have z1 : W4.cell? ⟨w3.heap.size, 1, none⟩ = some (.int .u64 0) := blk_cell B41.out 1 _ rfl
              clear b4_0 b4_1
              have hG := eqG_val
              obtain ⟨A1, hA⟩ : ∃ L, L = ones b := ⟨_, rfl⟩
              have hA8 : A1 < 2 ^ 128 := by rw [hA]; unfold ones; have := Nat.pow_le_pow_right (n := 2) (by decide) (cl_le b); have := Nat.two_pow_pos (cl b); omega
              have hqz : ∀ (z : Bool) (_ : z = true ↔ m.val = 0) (W : World), (Op.equalIn 10000 29 (.agg #[.int .u64 (hi m.val), .int .u64 (lo m.val)]) (.agg #[.int .u64 0, .int .u64 0])).run Try.prog W = .ok z W := fun z hz W => eqd_val m.val 0 (Lib.hid HM.out.1) (Lib.hid (by decide)) z hz W
              have hqh : ∀ (z : Bool) (_ : z = true ↔ m.high = A1) (W : World), (Op.equalIn 10000 29 (.agg #[.int .u64 (hi m.high), .int .u64 (lo m.high)]) (.agg #[.int .u64 (hi A1), .int .u64 (lo A1)])).run Try.prog W = .ok z W := fun z hz W => eqd_val m.high A1 (Lib.hid HM.out.2.2.1) (Lib.hid hA8) z hz W
              have KO : Hid (∀ W, Calls Try.prog 63 #[.int .i64 b] W (RetV A1 W)) := Lib.hid fun W => by rw [hA]; exact ones_any b W
              have hE : fitM m 4 b ↔ (¬ (m.val = 0 ∧ m.high = A1) ∧ m.val ≤ m.high) := by unfold fitM kindM; rw [if_neg (by decide), if_neg (by decide), if_pos rfl, ← hA]; exact ⟨fun h => h.2, fun h => ⟨⟨f1, f2, f3⟩, h⟩⟩
              have HE := Lib.hid hE
              clear hE hA hA8
              by_cases h0 : m.val = 0
              · have hqc := hqz true (by simp [h0])
                clear hqz
                by_cases h1 : m.high = A1
                · have hqd := hqh true (by simp [h1])
                  obtain rfl : r = false := bool_no HR.out fun h => (HE.out.1 h).1 ⟨h0, h1⟩
                  clear hqh h0 h1
                  go_upto_region 10 with fail
                  rw [← HW4.out]
                  have HKS : Hid (∀ w', Below W4.heap.size W4 w' → Below W4.heap.size W4 w' ∧ w'.cell? ⟨w.heap.size, 0, none⟩ = some (.bool m.pres) ∧ w'.cell? ⟨w.heap.size, 1, none⟩ = some (.int .u64 (hi m.val)) ∧ w'.cell? ⟨w.heap.size, 2, none⟩ = some (.int .u64 (lo m.val)) ∧ w'.cell? ⟨w.heap.size, 3, none⟩ = some (.int .u64 (hi m.mask)) ∧ w'.cell? ⟨w.heap.size, 4, none⟩ = some (.int .u64 (lo m.mask)) ∧ w'.cell? ⟨w.heap.size, 5, none⟩ = some (.int .i64 m.pre) ∧ w'.cell? ⟨w.heap.size, 6, none⟩ = some (.int .u64 (hi m.high)) ∧ w'.cell? ⟨w.heap.size, 7, none⟩ = some (.int .u64 (lo m.high)) ∧ w'.cell? ⟨w3.heap.size, 0, none⟩ = some (.int .u64 0) ∧ w'.cell? ⟨w3.heap.size, 1, none⟩ = some (.int .u64 0)) := Lib.hid fun w' hb => by
                    have q0 := (hb.block (w.heap.size) (by omega)).trans B40.out
                    have q1 := (hb.block (w3.heap.size) (by omega)).trans B41.out
                    exact ⟨hb, blk_cell q0 0 _ rfl, blk_cell q0 1 _ rfl, blk_cell q0 2 _ rfl, blk_cell q0 3 _ rfl, blk_cell q0 4 _ rfl, blk_cell q0 5 _ rfl, blk_cell q0 6 _ rfl, blk_cell q0 7 _ rfl, blk_cell q1 0 _ rfl, blk_cell q1 1 _ rfl⟩
                  go_region_held3 (fun w' => Below W4.heap.size W4 w' ∧ w'.cell? ⟨w.heap.size, 0, none⟩ = some (.bool m.pres) ∧ w'.cell? ⟨w.heap.size, 1, none⟩ = some (.int .u64 (hi m.val)) ∧ w'.cell? ⟨w.heap.size, 2, none⟩ = some (.int .u64 (lo m.val)) ∧ w'.cell? ⟨w.heap.size, 3, none⟩ = some (.int .u64 (hi m.mask)) ∧ w'.cell? ⟨w.heap.size, 4, none⟩ = some (.int .u64 (lo m.mask)) ∧ w'.cell? ⟨w.heap.size, 5, none⟩ = some (.int .i64 m.pre) ∧ w'.cell? ⟨w.heap.size, 6, none⟩ = some (.int .u64 (hi m.high)) ∧ w'.cell? ⟨w.heap.size, 7, none⟩ = some (.int .u64 (lo m.high)) ∧ w'.cell? ⟨w3.heap.size, 0, none⟩ = some (.int .u64 0) ∧ w'.cell? ⟨w3.heap.size, 1, none⟩ = some (.int .u64 0))
                    (first
                      | exact HKS.out _ (Below.drew (Below.refl _ _))
                      | exact HKS.out _ (below_call (And.left (by assumption)) (by assumption))
                      | exact HKS.out _ (below_alloc (And.left (by assumption)) _)
                      | assumption)
                    (first
                      | (go_at_call 63; (with_reducible refine (KO.out _).mono ?_); rintro en v1 ⟨rfl, hv1⟩))
                  all_goals go_wp2_with fail
                  all_goals go_ret
                  all_goals exact ⟨rfl, HB4.out.trans ((And.left (by assumption : Below W4.heap.size W4 _ ∧ _)).mono HB4.out.size)⟩
                · have hqd := hqh false (by simp [h1])
                  obtain ⟨c, hc⟩ := some_bool (cmp m.val m.high ≤ 0)
                  obtain rfl : r = c := bool_eq HR.out hc (by rw [cmp_le]; exact ⟨fun h => (HE.out.1 h).2, fun h => HE.out.2 ⟨fun h2 => h1 h2.2, h⟩⟩)
                  have HCD := Lib.hid (dec_of hc)
                  clear hc
                  clear hqh h0 h1
                  go_upto_region 10 with fail
                  rw [← HW4.out]
                  have HKS : Hid (∀ w', Below W4.heap.size W4 w' → Below W4.heap.size W4 w' ∧ w'.cell? ⟨w.heap.size, 0, none⟩ = some (.bool m.pres) ∧ w'.cell? ⟨w.heap.size, 1, none⟩ = some (.int .u64 (hi m.val)) ∧ w'.cell? ⟨w.heap.size, 2, none⟩ = some (.int .u64 (lo m.val)) ∧ w'.cell? ⟨w.heap.size, 3, none⟩ = some (.int .u64 (hi m.mask)) ∧ w'.cell? ⟨w.heap.size, 4, none⟩ = some (.int .u64 (lo m.mask)) ∧ w'.cell? ⟨w.heap.size, 5, none⟩ = some (.int .i64 m.pre) ∧ w'.cell? ⟨w.heap.size, 6, none⟩ = some (.int .u64 (hi m.high)) ∧ w'.cell? ⟨w.heap.size, 7, none⟩ = some (.int .u64 (lo m.high)) ∧ w'.cell? ⟨w3.heap.size, 0, none⟩ = some (.int .u64 0) ∧ w'.cell? ⟨w3.heap.size, 1, none⟩ = some (.int .u64 0)) := Lib.hid fun w' hb => by
                    have q0 := (hb.block (w.heap.size) (by omega)).trans B40.out
                    have q1 := (hb.block (w3.heap.size) (by omega)).trans B41.out
                    exact ⟨hb, blk_cell q0 0 _ rfl, blk_cell q0 1 _ rfl, blk_cell q0 2 _ rfl, blk_cell q0 3 _ rfl, blk_cell q0 4 _ rfl, blk_cell q0 5 _ rfl, blk_cell q0 6 _ rfl, blk_cell q0 7 _ rfl, blk_cell q1 0 _ rfl, blk_cell q1 1 _ rfl⟩
                  go_region_held3 (fun w' => Below W4.heap.size W4 w' ∧ w'.cell? ⟨w.heap.size, 0, none⟩ = some (.bool m.pres) ∧ w'.cell? ⟨w.heap.size, 1, none⟩ = some (.int .u64 (hi m.val)) ∧ w'.cell? ⟨w.heap.size, 2, none⟩ = some (.int .u64 (lo m.val)) ∧ w'.cell? ⟨w.heap.size, 3, none⟩ = some (.int .u64 (hi m.mask)) ∧ w'.cell? ⟨w.heap.size, 4, none⟩ = some (.int .u64 (lo m.mask)) ∧ w'.cell? ⟨w.heap.size, 5, none⟩ = some (.int .i64 m.pre) ∧ w'.cell? ⟨w.heap.size, 6, none⟩ = some (.int .u64 (hi m.high)) ∧ w'.cell? ⟨w.heap.size, 7, none⟩ = some (.int .u64 (lo m.high)) ∧ w'.cell? ⟨w3.heap.size, 0, none⟩ = some (.int .u64 0) ∧ w'.cell? ⟨w3.heap.size, 1, none⟩ = some (.int .u64 0))
                    (first
                      | exact HKS.out _ (Below.drew (Below.refl _ _))
                      | exact HKS.out _ (below_call (And.left (by assumption)) (by assumption))
                      | exact HKS.out _ (below_alloc (And.left (by assumption)) _)
                      | assumption)
                    (first
                      | (go_at_call 63; (with_reducible refine (KO.out _).mono ?_); rintro en v1 ⟨rfl, hv1⟩))
                  all_goals go_wp2_with fail
                  all_goals refine (compare_any m.val m.high HM.out.1 HM.out.2.2.1 _).mono ?_
                  all_goals rintro en w6 ⟨rfl, hv6⟩
                  all_goals go_wp2_with fail
                  all_goals go_ret
                  all_goals exact ⟨by first | rfl | (rw [← HCD.out]; rfl) | simp [← HCD.out], HB4.out.trans (((And.left (by assumption : Below W4.heap.size W4 _ ∧ _)).trans (hv6.mono (And.left (by assumption : Below W4.heap.size W4 _ ∧ _)).size)).mono HB4.out.size)⟩
              · have hqc := hqz false (by simp [h0])
                obtain ⟨c, hc⟩ := some_bool (cmp m.val m.high ≤ 0)
                obtain rfl : r = c := bool_eq HR.out hc (by rw [cmp_le]; exact ⟨fun h => (HE.out.1 h).2, fun h => HE.out.2 ⟨fun h2 => h0 h2.1, h⟩⟩)
                have HCD := Lib.hid (dec_of hc)
                clear hc
                clear hqz hqh
                go_upto_region 10 with fail
                rw [← HW4.out]
                go_quiet (fail)
                all_goals go_wp2_with fail
                all_goals refine (compare_any m.val m.high HM.out.1 HM.out.2.2.1 _).mono ?_
                all_goals rintro en w6 ⟨rfl, hv6⟩
                all_goals go_wp2_with fail
                all_goals go_ret
                all_goals exact ⟨by first | rfl | (rw [← HCD.out]; rfl) | simp [← HCD.out], HB4.out.trans (((below_dn W4.heap.size W4 _).trans hv6).mono HB4.out.size)⟩
            ·
              go_enter Try.func57, Try.ntmps57
              go_wp2_with fail
              rw [← HW0.out]
              refine (fits_any _ _ HM.out.1 _).mono ?_
              rintro en w1 ⟨rfl, hv1⟩
              rw [decide_eq_true f1]
              have HB1 := Lib.hid (HB0.out.trans (hv1.mono HB0.out.size))
              have hz1 : w.heap.size + 1 ≤ w1.heap.size := by have := hv1.size; omega
              have BB1 := Lib.hid ((hv1.block w.heap.size (by omega)).trans BB0.out)
              clear hv1 c0 c1 c2 c3 c4 c5 c6 c7
              have c0 : w1.cell? ⟨w.heap.size, 0, none⟩ = some (.bool m.pres) := blk_cell BB1.out 0 _ rfl
              have c1 : w1.cell? ⟨w.heap.size, 1, none⟩ = some (.int .u64 (hi m.val)) := blk_cell BB1.out 1 _ rfl
              have c2 : w1.cell? ⟨w.heap.size, 2, none⟩ = some (.int .u64 (lo m.val)) := blk_cell BB1.out 2 _ rfl
              have c3 : w1.cell? ⟨w.heap.size, 3, none⟩ = some (.int .u64 (hi m.mask)) := blk_cell BB1.out 3 _ rfl
              have c4 : w1.cell? ⟨w.heap.size, 4, none⟩ = some (.int .u64 (lo m.mask)) := blk_cell BB1.out 4 _ rfl
              have c5 : w1.cell? ⟨w.heap.size, 5, none⟩ = some (.int .i64 m.pre) := blk_cell BB1.out 5 _ rfl
              have c6 : w1.cell? ⟨w.heap.size, 6, none⟩ = some (.int .u64 (hi m.high)) := blk_cell BB1.out 6 _ rfl
              have c7 : w1.cell? ⟨w.heap.size, 7, none⟩ = some (.int .u64 (lo m.high)) := blk_cell BB1.out 7 _ rfl
              go_wp2_with fail
              refine (fits_any _ _ HM.out.2.1 _).mono ?_
              rintro en w2 ⟨rfl, hv2⟩
              rw [decide_eq_true f2]
              have HB2 := Lib.hid (HB1.out.trans (hv2.mono HB1.out.size))
              have hz2 : w.heap.size + 1 ≤ w2.heap.size := by have := hv2.size; omega
              have BB2 := Lib.hid ((hv2.block w.heap.size (by omega)).trans BB1.out)
              clear hv2 c0 c1 c2 c3 c4 c5 c6 c7
              have c0 : w2.cell? ⟨w.heap.size, 0, none⟩ = some (.bool m.pres) := blk_cell BB2.out 0 _ rfl
              have c1 : w2.cell? ⟨w.heap.size, 1, none⟩ = some (.int .u64 (hi m.val)) := blk_cell BB2.out 1 _ rfl
              have c2 : w2.cell? ⟨w.heap.size, 2, none⟩ = some (.int .u64 (lo m.val)) := blk_cell BB2.out 2 _ rfl
              have c3 : w2.cell? ⟨w.heap.size, 3, none⟩ = some (.int .u64 (hi m.mask)) := blk_cell BB2.out 3 _ rfl
              have c4 : w2.cell? ⟨w.heap.size, 4, none⟩ = some (.int .u64 (lo m.mask)) := blk_cell BB2.out 4 _ rfl
              have c5 : w2.cell? ⟨w.heap.size, 5, none⟩ = some (.int .i64 m.pre) := blk_cell BB2.out 5 _ rfl
              have c6 : w2.cell? ⟨w.heap.size, 6, none⟩ = some (.int .u64 (hi m.high)) := blk_cell BB2.out 6 _ rfl
              have c7 : w2.cell? ⟨w.heap.size, 7, none⟩ = some (.int .u64 (lo m.high)) := blk_cell BB2.out 7 _ rfl
              go_wp2_with fail
              refine (fits_any _ _ HM.out.2.2.1 _).mono ?_
              rintro en w3 ⟨rfl, hv3⟩
              rw [decide_eq_true f3]
              have HB3 := Lib.hid (HB2.out.trans (hv3.mono HB2.out.size))
              have hz3 : w.heap.size + 1 ≤ w3.heap.size := by have := hv3.size; omega
              have BB3 := Lib.hid ((hv3.block w.heap.size (by omega)).trans BB2.out)
              clear hv3 c0 c1 c2 c3 c4 c5 c6 c7
              have c0 : w3.cell? ⟨w.heap.size, 0, none⟩ = some (.bool m.pres) := blk_cell BB3.out 0 _ rfl
              have c1 : w3.cell? ⟨w.heap.size, 1, none⟩ = some (.int .u64 (hi m.val)) := blk_cell BB3.out 1 _ rfl
              have c2 : w3.cell? ⟨w.heap.size, 2, none⟩ = some (.int .u64 (lo m.val)) := blk_cell BB3.out 2 _ rfl
              have c3 : w3.cell? ⟨w.heap.size, 3, none⟩ = some (.int .u64 (hi m.mask)) := blk_cell BB3.out 3 _ rfl
              have c4 : w3.cell? ⟨w.heap.size, 4, none⟩ = some (.int .u64 (lo m.mask)) := blk_cell BB3.out 4 _ rfl
              have c5 : w3.cell? ⟨w.heap.size, 5, none⟩ = some (.int .i64 m.pre) := blk_cell BB3.out 5 _ rfl
              have c6 : w3.cell? ⟨w.heap.size, 6, none⟩ = some (.int .u64 (hi m.high)) := blk_cell BB3.out 6 _ rfl
              have c7 : w3.cell? ⟨w.heap.size, 7, none⟩ = some (.int .u64 (lo m.high)) := blk_cell BB3.out 7 _ rfl
              obtain ⟨W4, hW4⟩ : ∃ W, W = w3.alloc (.cells #[.int .u64 0, .int .u64 0] 29) := ⟨_, rfl⟩
              have hv4 : Below w3.heap.size w3 W4 := by rw [hW4]; exact (Below.refl _ _).alloc (Nat.le_refl _) _
              have hz4 : W4.heap.size = w3.heap.size + 1 := by rw [hW4]; simp
              have b4_0 := (hv4.block w.heap.size (by omega)).trans BB3.out
              have b4_1 : W4.heap[w3.heap.size]? = some (.cells #[.int .u64 0, .int .u64 0] 29 (0, 0)) := by rw [hW4]; exact heap_alloc_new _ _
              have HB4 := Lib.hid (HB3.out.trans (hv4.mono HB3.out.size))
              have HW4 := Lib.hid hW4
              have B40 := Lib.hid b4_0
              have B41 := Lib.hid b4_1
              clear hv4 hW4 c0 c1 c2 c3 c4 c5 c6 c7
              have c0 : W4.cell? ⟨w.heap.size, 0, none⟩ = some (.bool m.pres) := blk_cell B40.out 0 _ rfl
              have c1 : W4.cell? ⟨w.heap.size, 1, none⟩ = some (.int .u64 (hi m.val)) := blk_cell B40.out 1 _ rfl
              have c2 : W4.cell? ⟨w.heap.size, 2, none⟩ = some (.int .u64 (lo m.val)) := blk_cell B40.out 2 _ rfl
              have c3 : W4.cell? ⟨w.heap.size, 3, none⟩ = some (.int .u64 (hi m.mask)) := blk_cell B40.out 3 _ rfl
              have c4 : W4.cell? ⟨w.heap.size, 4, none⟩ = some (.int .u64 (lo m.mask)) := blk_cell B40.out 4 _ rfl
              have c5 : W4.cell? ⟨w.heap.size, 5, none⟩ = some (.int .i64 m.pre) := blk_cell B40.out 5 _ rfl
              have c6 : W4.cell? ⟨w.heap.size, 6, none⟩ = some (.int .u64 (hi m.high)) := blk_cell B40.out 6 _ rfl
              have c7 : W4.cell? ⟨w.heap.size, 7, none⟩ = some (.int .u64 (lo m.high)) := blk_cell B40.out 7 _ rfl
              have z0 : W4.cell? ⟨w3.heap.size, 0, none⟩ = some (.int .u64 0) := blk_cell B41.out 0 _ rfl
              have z1 : W4.cell? ⟨w3.heap.size, 1, none⟩ = some (.int .u64 0) := blk_cell B41.out 1 _ rfl
              clear b4_0 b4_1
              obtain rfl : r = true := HR.out.2 ⟨⟨f1, f2, f3⟩, by unfold kindM; rw [if_neg h2, if_neg h3, if_neg h4]; trivial⟩
              go_upto_region 12 with fail
              rw [← HW4.out]
              go_wp2_with fail
              go_ret
              exact ⟨rfl, HB4.out⟩
      ·
        obtain rfl : r = false := bool_no HR.out fun h => f3 h.1.2.2
        have FD := Lib.hid (decide_eq_false f3)
        clear f3
        go_enter Try.func57, Try.ntmps57
        go_wp2_with fail
        rw [← HW0.out]
        refine (fits_any _ _ HM.out.1 _).mono ?_
        rintro en w1 ⟨rfl, hv1⟩
        rw [decide_eq_true f1]
        have HB1 := Lib.hid (HB0.out.trans (hv1.mono HB0.out.size))
        have hz1 : w.heap.size + 1 ≤ w1.heap.size := by have := hv1.size; omega
        have BB1 := Lib.hid ((hv1.block w.heap.size (by omega)).trans BB0.out)
        clear hv1 c0 c1 c2 c3 c4 c5 c6 c7
        have c0 : w1.cell? ⟨w.heap.size, 0, none⟩ = some (.bool m.pres) := blk_cell BB1.out 0 _ rfl
        have c1 : w1.cell? ⟨w.heap.size, 1, none⟩ = some (.int .u64 (hi m.val)) := blk_cell BB1.out 1 _ rfl
        have c2 : w1.cell? ⟨w.heap.size, 2, none⟩ = some (.int .u64 (lo m.val)) := blk_cell BB1.out 2 _ rfl
        have c3 : w1.cell? ⟨w.heap.size, 3, none⟩ = some (.int .u64 (hi m.mask)) := blk_cell BB1.out 3 _ rfl
        have c4 : w1.cell? ⟨w.heap.size, 4, none⟩ = some (.int .u64 (lo m.mask)) := blk_cell BB1.out 4 _ rfl
        have c5 : w1.cell? ⟨w.heap.size, 5, none⟩ = some (.int .i64 m.pre) := blk_cell BB1.out 5 _ rfl
        have c6 : w1.cell? ⟨w.heap.size, 6, none⟩ = some (.int .u64 (hi m.high)) := blk_cell BB1.out 6 _ rfl
        have c7 : w1.cell? ⟨w.heap.size, 7, none⟩ = some (.int .u64 (lo m.high)) := blk_cell BB1.out 7 _ rfl
        go_wp2_with fail
        refine (fits_any _ _ HM.out.2.1 _).mono ?_
        rintro en w2 ⟨rfl, hv2⟩
        rw [decide_eq_true f2]
        have HB2 := Lib.hid (HB1.out.trans (hv2.mono HB1.out.size))
        have hz2 : w.heap.size + 1 ≤ w2.heap.size := by have := hv2.size; omega
        have BB2 := Lib.hid ((hv2.block w.heap.size (by omega)).trans BB1.out)
        clear hv2 c0 c1 c2 c3 c4 c5 c6 c7
        have c0 : w2.cell? ⟨w.heap.size, 0, none⟩ = some (.bool m.pres) := blk_cell BB2.out 0 _ rfl
        have c1 : w2.cell? ⟨w.heap.size, 1, none⟩ = some (.int .u64 (hi m.val)) := blk_cell BB2.out 1 _ rfl
        have c2 : w2.cell? ⟨w.heap.size, 2, none⟩ = some (.int .u64 (lo m.val)) := blk_cell BB2.out 2 _ rfl
        have c3 : w2.cell? ⟨w.heap.size, 3, none⟩ = some (.int .u64 (hi m.mask)) := blk_cell BB2.out 3 _ rfl
        have c4 : w2.cell? ⟨w.heap.size, 4, none⟩ = some (.int .u64 (lo m.mask)) := blk_cell BB2.out 4 _ rfl
        have c5 : w2.cell? ⟨w.heap.size, 5, none⟩ = some (.int .i64 m.pre) := blk_cell BB2.out 5 _ rfl
        have c6 : w2.cell? ⟨w.heap.size, 6, none⟩ = some (.int .u64 (hi m.high)) := blk_cell BB2.out 6 _ rfl
        have c7 : w2.cell? ⟨w.heap.size, 7, none⟩ = some (.int .u64 (lo m.high)) := blk_cell BB2.out 7 _ rfl
        go_wp2_with fail
        refine (fits_any _ _ HM.out.2.2.1 _).mono ?_
        rintro en w3 ⟨rfl, hv3⟩
        rw [FD.out]
        have HB3 := Lib.hid (HB2.out.trans (hv3.mono HB2.out.size))
        have hz3 : w.heap.size + 1 ≤ w3.heap.size := by have := hv3.size; omega
        have BB3 := Lib.hid ((hv3.block w.heap.size (by omega)).trans BB2.out)
        clear hv3 c0 c1 c2 c3 c4 c5 c6 c7
        have c0 : w3.cell? ⟨w.heap.size, 0, none⟩ = some (.bool m.pres) := blk_cell BB3.out 0 _ rfl
        have c1 : w3.cell? ⟨w.heap.size, 1, none⟩ = some (.int .u64 (hi m.val)) := blk_cell BB3.out 1 _ rfl
        have c2 : w3.cell? ⟨w.heap.size, 2, none⟩ = some (.int .u64 (lo m.val)) := blk_cell BB3.out 2 _ rfl
        have c3 : w3.cell? ⟨w.heap.size, 3, none⟩ = some (.int .u64 (hi m.mask)) := blk_cell BB3.out 3 _ rfl
        have c4 : w3.cell? ⟨w.heap.size, 4, none⟩ = some (.int .u64 (lo m.mask)) := blk_cell BB3.out 4 _ rfl
        have c5 : w3.cell? ⟨w.heap.size, 5, none⟩ = some (.int .i64 m.pre) := blk_cell BB3.out 5 _ rfl
        have c6 : w3.cell? ⟨w.heap.size, 6, none⟩ = some (.int .u64 (hi m.high)) := blk_cell BB3.out 6 _ rfl
        have c7 : w3.cell? ⟨w.heap.size, 7, none⟩ = some (.int .u64 (lo m.high)) := blk_cell BB3.out 7 _ rfl
        go_wp2_with fail
        go_ret
        exact ⟨rfl, HB3.out⟩
    ·
      obtain rfl : r = false := bool_no HR.out fun h => f2 h.1.2.1
      have FD := Lib.hid (decide_eq_false f2)
      clear f2
      go_enter Try.func57, Try.ntmps57
      go_wp2_with fail
      rw [← HW0.out]
      refine (fits_any _ _ HM.out.1 _).mono ?_
      rintro en w1 ⟨rfl, hv1⟩
      rw [decide_eq_true f1]
      have HB1 := Lib.hid (HB0.out.trans (hv1.mono HB0.out.size))
      have hz1 : w.heap.size + 1 ≤ w1.heap.size := by have := hv1.size; omega
      have BB1 := Lib.hid ((hv1.block w.heap.size (by omega)).trans BB0.out)
      clear hv1 c0 c1 c2 c3 c4 c5 c6 c7
      have c0 : w1.cell? ⟨w.heap.size, 0, none⟩ = some (.bool m.pres) := blk_cell BB1.out 0 _ rfl
      have c1 : w1.cell? ⟨w.heap.size, 1, none⟩ = some (.int .u64 (hi m.val)) := blk_cell BB1.out 1 _ rfl
      have c2 : w1.cell? ⟨w.heap.size, 2, none⟩ = some (.int .u64 (lo m.val)) := blk_cell BB1.out 2 _ rfl
      have c3 : w1.cell? ⟨w.heap.size, 3, none⟩ = some (.int .u64 (hi m.mask)) := blk_cell BB1.out 3 _ rfl
      have c4 : w1.cell? ⟨w.heap.size, 4, none⟩ = some (.int .u64 (lo m.mask)) := blk_cell BB1.out 4 _ rfl
      have c5 : w1.cell? ⟨w.heap.size, 5, none⟩ = some (.int .i64 m.pre) := blk_cell BB1.out 5 _ rfl
      have c6 : w1.cell? ⟨w.heap.size, 6, none⟩ = some (.int .u64 (hi m.high)) := blk_cell BB1.out 6 _ rfl
      have c7 : w1.cell? ⟨w.heap.size, 7, none⟩ = some (.int .u64 (lo m.high)) := blk_cell BB1.out 7 _ rfl
      go_wp2_with fail
      refine (fits_any _ _ HM.out.2.1 _).mono ?_
      rintro en w2 ⟨rfl, hv2⟩
      rw [FD.out]
      have HB2 := Lib.hid (HB1.out.trans (hv2.mono HB1.out.size))
      have hz2 : w.heap.size + 1 ≤ w2.heap.size := by have := hv2.size; omega
      have BB2 := Lib.hid ((hv2.block w.heap.size (by omega)).trans BB1.out)
      clear hv2 c0 c1 c2 c3 c4 c5 c6 c7
      have c0 : w2.cell? ⟨w.heap.size, 0, none⟩ = some (.bool m.pres) := blk_cell BB2.out 0 _ rfl
      have c1 : w2.cell? ⟨w.heap.size, 1, none⟩ = some (.int .u64 (hi m.val)) := blk_cell BB2.out 1 _ rfl
      have c2 : w2.cell? ⟨w.heap.size, 2, none⟩ = some (.int .u64 (lo m.val)) := blk_cell BB2.out 2 _ rfl
      have c3 : w2.cell? ⟨w.heap.size, 3, none⟩ = some (.int .u64 (hi m.mask)) := blk_cell BB2.out 3 _ rfl
      have c4 : w2.cell? ⟨w.heap.size, 4, none⟩ = some (.int .u64 (lo m.mask)) := blk_cell BB2.out 4 _ rfl
      have c5 : w2.cell? ⟨w.heap.size, 5, none⟩ = some (.int .i64 m.pre) := blk_cell BB2.out 5 _ rfl
      have c6 : w2.cell? ⟨w.heap.size, 6, none⟩ = some (.int .u64 (hi m.high)) := blk_cell BB2.out 6 _ rfl
      have c7 : w2.cell? ⟨w.heap.size, 7, none⟩ = some (.int .u64 (lo m.high)) := blk_cell BB2.out 7 _ rfl
      go_wp2_with fail
      go_ret
      exact ⟨rfl, HB2.out⟩
  ·
    obtain rfl : r = false := bool_no HR.out fun h => f1 h.1.1
    have FD := Lib.hid (decide_eq_false f1)
    clear f1
    go_enter Try.func57, Try.ntmps57
    go_wp2_with fail
    rw [← HW0.out]
    refine (fits_any _ _ HM.out.1 _).mono ?_
    rintro en w1 ⟨rfl, hv1⟩
    rw [FD.out]
    have HB1 := Lib.hid (HB0.out.trans (hv1.mono HB0.out.size))
    have hz1 : w.heap.size + 1 ≤ w1.heap.size := by have := hv1.size; omega
    have BB1 := Lib.hid ((hv1.block w.heap.size (by omega)).trans BB0.out)
    clear hv1 c0 c1 c2 c3 c4 c5 c6 c7
    have c0 : w1.cell? ⟨w.heap.size, 0, none⟩ = some (.bool m.pres) := blk_cell BB1.out 0 _ rfl
    have c1 : w1.cell? ⟨w.heap.size, 1, none⟩ = some (.int .u64 (hi m.val)) := blk_cell BB1.out 1 _ rfl
    have c2 : w1.cell? ⟨w.heap.size, 2, none⟩ = some (.int .u64 (lo m.val)) := blk_cell BB1.out 2 _ rfl
    have c3 : w1.cell? ⟨w.heap.size, 3, none⟩ = some (.int .u64 (hi m.mask)) := blk_cell BB1.out 3 _ rfl
    have c4 : w1.cell? ⟨w.heap.size, 4, none⟩ = some (.int .u64 (lo m.mask)) := blk_cell BB1.out 4 _ rfl
    have c5 : w1.cell? ⟨w.heap.size, 5, none⟩ = some (.int .i64 m.pre) := blk_cell BB1.out 5 _ rfl
    have c6 : w1.cell? ⟨w.heap.size, 6, none⟩ = some (.int .u64 (hi m.high)) := blk_cell BB1.out 6 _ rfl
    have c7 : w1.cell? ⟨w.heap.size, 7, none⟩ = some (.int .u64 (lo m.high)) := blk_cell BB1.out 7 _ rfl
    go_wp2_with fail
    go_ret
    exact ⟨rfl, HB1.out⟩
end
/- The program's check of an entry's key. -/
section
open Go.RowKit

set_option maxRecDepth 100000 in
set_option maxHeartbeats 1000000 in
theorem g_checkMatch (m : MatchD) (hm : MatchOk m) (kd b : Int) (w : World) : Calls Try.prog 49 #[.agg #[.bool m.pres, .int .u64 (hi m.val), .int .u64 (lo m.val), .int .u64 (hi m.mask), .int .u64 (lo m.mask), .int .i64 m.pre, .int .u64 (hi m.high), .int .u64 (lo m.high)], .int .i64 kd, .int .i64 b] w (RetX (.int .i64 (checkM m kd b)) w) := by
  obtain ⟨r, hr⟩ : ∃ r, r = checkM m kd b := ⟨_, rfl⟩
  rw [← hr]
  have HR := Lib.hid hr
  have HM := Lib.hid hm
  have K1 : Hid (∀ W, Calls Try.prog 56 #[.agg #[.bool m.pres, .int .u64 (hi m.val), .int .u64 (lo m.val), .int .u64 (hi m.mask), .int .u64 (lo m.mask), .int .i64 m.pre, .int .u64 (hi m.high), .int .u64 (lo m.high)], .int .i64 kd] W (RetX (.bool (decide (formM m kd))) W)) := Lib.hid fun W => g_hasForm m hm kd W
  have K2 : Hid (m.pres = true → ∀ W, Calls Try.prog 57 #[.agg #[.bool true, .int .u64 (hi m.val), .int .u64 (lo m.val), .int .u64 (hi m.mask), .int .u64 (lo m.mask), .int .i64 m.pre, .int .u64 (hi m.high), .int .u64 (lo m.high)], .int .i64 kd, .int .i64 b] W (RetX (.bool (decide (fitM m kd b))) W)) := Lib.hid fun hp W => by
    have := g_hasFit m hm kd b W
    rwa [hp] at this
  clear hr hm
  obtain ⟨W0, hW0⟩ : ∃ W, W = (w.alloc (.cells #[.bool m.pres, .int .u64 (hi m.val), .int .u64 (lo m.val), .int .u64 (hi m.mask), .int .u64 (lo m.mask), .int .i64 m.pre, .int .u64 (hi m.high), .int .u64 (lo m.high)] 75)) := ⟨_, rfl⟩
  have hB0 : Below w.heap.size w W0 := by rw [hW0]; exact ((Below.refl w.heap.size w).alloc (by simp <;> omega) _)
  have hz0 : W0.heap.size = w.heap.size + 1 := by rw [hW0]; simp
  have b0_0 : W0.heap[w.heap.size]? = some (.cells #[.bool m.pres, .int .u64 (hi m.val), .int .u64 (lo m.val), .int .u64 (hi m.mask), .int .u64 (lo m.mask), .int .i64 m.pre, .int .u64 (hi m.high), .int .u64 (lo m.high)] 75 (0, 0)) := by
    rw [hW0]
    exact heap_alloc_new _ _
  have c0 : W0.cell? ⟨w.heap.size, 0, none⟩ = some (.bool m.pres) := blk_cell b0_0 0 _ rfl
  have c1 : W0.cell? ⟨w.heap.size, 1, none⟩ = some (.int .u64 (hi m.val)) := blk_cell b0_0 1 _ rfl
  have c2 : W0.cell? ⟨w.heap.size, 2, none⟩ = some (.int .u64 (lo m.val)) := blk_cell b0_0 2 _ rfl
  have c3 : W0.cell? ⟨w.heap.size, 3, none⟩ = some (.int .u64 (hi m.mask)) := blk_cell b0_0 3 _ rfl
  have c4 : W0.cell? ⟨w.heap.size, 4, none⟩ = some (.int .u64 (lo m.mask)) := blk_cell b0_0 4 _ rfl
  have c5 : W0.cell? ⟨w.heap.size, 5, none⟩ = some (.int .i64 m.pre) := blk_cell b0_0 5 _ rfl
  have c6 : W0.cell? ⟨w.heap.size, 6, none⟩ = some (.int .u64 (hi m.high)) := blk_cell b0_0 6 _ rfl
  have c7 : W0.cell? ⟨w.heap.size, 7, none⟩ = some (.int .u64 (lo m.high)) := blk_cell b0_0 7 _ rfl
  have HB0 := Lib.hid hB0
  have HW0 := Lib.hid hW0
  have BB0 := Lib.hid b0_0
  clear hB0 hW0 b0_0
  by_cases hf : formM m kd
  · have FD := Lib.hid (decide_eq_true hf)
    cases hp : m.pres
    · obtain rfl : r = 0 := by rw [HR.out]; unfold checkM; rw [if_pos hf, if_neg (fun h => by rw [hp] at h; exact absurd h.1 (by decide))]
      have HP := Lib.hid hp
      rw [← hp]
      clear hf hp
      go_enter Try.func49, Try.ntmps49
      go_wp2_with fail
      rw [← HW0.out]
      refine (K1.out _).mono ?_
      rintro en w1 ⟨rfl, hv1⟩
      rw [FD.out]
      have HB1 := Lib.hid (HB0.out.trans (hv1.mono HB0.out.size))
      have hz1 : w.heap.size + 1 ≤ w1.heap.size := by have := hv1.size; omega
      have BB1 := Lib.hid ((hv1.block w.heap.size (by omega)).trans BB0.out)
      clear hv1 c0 c1 c2 c3 c4 c5 c6 c7
      have c0 : w1.cell? ⟨w.heap.size, 0, none⟩ = some (.bool false) := by rw [← HP.out]; exact blk_cell BB1.out 0 _ rfl
      have c1 : w1.cell? ⟨w.heap.size, 1, none⟩ = some (.int .u64 (hi m.val)) := blk_cell BB1.out 1 _ rfl
      have c2 : w1.cell? ⟨w.heap.size, 2, none⟩ = some (.int .u64 (lo m.val)) := blk_cell BB1.out 2 _ rfl
      have c3 : w1.cell? ⟨w.heap.size, 3, none⟩ = some (.int .u64 (hi m.mask)) := blk_cell BB1.out 3 _ rfl
      have c4 : w1.cell? ⟨w.heap.size, 4, none⟩ = some (.int .u64 (lo m.mask)) := blk_cell BB1.out 4 _ rfl
      have c5 : w1.cell? ⟨w.heap.size, 5, none⟩ = some (.int .i64 m.pre) := blk_cell BB1.out 5 _ rfl
      have c6 : w1.cell? ⟨w.heap.size, 6, none⟩ = some (.int .u64 (hi m.high)) := blk_cell BB1.out 6 _ rfl
      have c7 : w1.cell? ⟨w.heap.size, 7, none⟩ = some (.int .u64 (lo m.high)) := blk_cell BB1.out 7 _ rfl
      go_wp2_with fail
      go_ret
      exact ⟨rfl, HB1.out⟩
    · by_cases ht : fitM m kd b
      · obtain rfl : r = 0 := by rw [HR.out]; unfold checkM; rw [if_pos hf, if_neg (fun h => h.2 ht)]
        have HP := Lib.hid hp
        have FT := Lib.hid (decide_eq_true ht)
        rw [← hp]
        clear hf hp ht
        go_enter Try.func49, Try.ntmps49
        go_wp2_with fail
        rw [← HW0.out]
        refine (K1.out _).mono ?_
        rintro en w1 ⟨rfl, hv1⟩
        rw [FD.out]
        have HB1 := Lib.hid (HB0.out.trans (hv1.mono HB0.out.size))
        have hz1 : w.heap.size + 1 ≤ w1.heap.size := by have := hv1.size; omega
        have BB1 := Lib.hid ((hv1.block w.heap.size (by omega)).trans BB0.out)
        clear hv1 c0 c1 c2 c3 c4 c5 c6 c7
        have c0 : w1.cell? ⟨w.heap.size, 0, none⟩ = some (.bool true) := by rw [← HP.out]; exact blk_cell BB1.out 0 _ rfl
        have c1 : w1.cell? ⟨w.heap.size, 1, none⟩ = some (.int .u64 (hi m.val)) := blk_cell BB1.out 1 _ rfl
        have c2 : w1.cell? ⟨w.heap.size, 2, none⟩ = some (.int .u64 (lo m.val)) := blk_cell BB1.out 2 _ rfl
        have c3 : w1.cell? ⟨w.heap.size, 3, none⟩ = some (.int .u64 (hi m.mask)) := blk_cell BB1.out 3 _ rfl
        have c4 : w1.cell? ⟨w.heap.size, 4, none⟩ = some (.int .u64 (lo m.mask)) := blk_cell BB1.out 4 _ rfl
        have c5 : w1.cell? ⟨w.heap.size, 5, none⟩ = some (.int .i64 m.pre) := blk_cell BB1.out 5 _ rfl
        have c6 : w1.cell? ⟨w.heap.size, 6, none⟩ = some (.int .u64 (hi m.high)) := blk_cell BB1.out 6 _ rfl
        have c7 : w1.cell? ⟨w.heap.size, 7, none⟩ = some (.int .u64 (lo m.high)) := blk_cell BB1.out 7 _ rfl
        go_wp2_with fail
        refine (K2.out HP.out _).mono ?_
        rintro en w2 ⟨rfl, hv2⟩
        rw [FT.out]
        have HB2 := Lib.hid (HB1.out.trans (hv2.mono HB1.out.size))
        clear hv2
        go_wp2_with fail
        go_ret
        exact ⟨rfl, HB2.out⟩
      · obtain rfl : r = 5 := by rw [HR.out]; unfold checkM; rw [if_pos hf, if_pos ⟨hp, ht⟩]
        have HP := Lib.hid hp
        have FT := Lib.hid (decide_eq_false ht)
        rw [← hp]
        clear hf hp ht
        go_enter Try.func49, Try.ntmps49
        go_wp2_with fail
        rw [← HW0.out]
        refine (K1.out _).mono ?_
        rintro en w1 ⟨rfl, hv1⟩
        rw [FD.out]
        have HB1 := Lib.hid (HB0.out.trans (hv1.mono HB0.out.size))
        have hz1 : w.heap.size + 1 ≤ w1.heap.size := by have := hv1.size; omega
        have BB1 := Lib.hid ((hv1.block w.heap.size (by omega)).trans BB0.out)
        clear hv1 c0 c1 c2 c3 c4 c5 c6 c7
        have c0 : w1.cell? ⟨w.heap.size, 0, none⟩ = some (.bool true) := by rw [← HP.out]; exact blk_cell BB1.out 0 _ rfl
        have c1 : w1.cell? ⟨w.heap.size, 1, none⟩ = some (.int .u64 (hi m.val)) := blk_cell BB1.out 1 _ rfl
        have c2 : w1.cell? ⟨w.heap.size, 2, none⟩ = some (.int .u64 (lo m.val)) := blk_cell BB1.out 2 _ rfl
        have c3 : w1.cell? ⟨w.heap.size, 3, none⟩ = some (.int .u64 (hi m.mask)) := blk_cell BB1.out 3 _ rfl
        have c4 : w1.cell? ⟨w.heap.size, 4, none⟩ = some (.int .u64 (lo m.mask)) := blk_cell BB1.out 4 _ rfl
        have c5 : w1.cell? ⟨w.heap.size, 5, none⟩ = some (.int .i64 m.pre) := blk_cell BB1.out 5 _ rfl
        have c6 : w1.cell? ⟨w.heap.size, 6, none⟩ = some (.int .u64 (hi m.high)) := blk_cell BB1.out 6 _ rfl
        have c7 : w1.cell? ⟨w.heap.size, 7, none⟩ = some (.int .u64 (lo m.high)) := blk_cell BB1.out 7 _ rfl
        go_wp2_with fail
        refine (K2.out HP.out _).mono ?_
        rintro en w2 ⟨rfl, hv2⟩
        rw [FT.out]
        have HB2 := Lib.hid (HB1.out.trans (hv2.mono HB1.out.size))
        clear hv2
        go_wp2_with fail
        go_ret
        exact ⟨rfl, HB2.out⟩
  · obtain rfl : r = 13 := by rw [HR.out]; unfold checkM; rw [if_neg hf]
    have FD := Lib.hid (decide_eq_false hf)
    clear hf
    go_enter Try.func49, Try.ntmps49
    go_wp2_with fail
    rw [← HW0.out]
    refine (K1.out _).mono ?_
    rintro en w1 ⟨rfl, hv1⟩
    rw [FD.out]
    have HB1 := Lib.hid (HB0.out.trans (hv1.mono HB0.out.size))
    have hz1 : w.heap.size + 1 ≤ w1.heap.size := by have := hv1.size; omega
    have BB1 := Lib.hid ((hv1.block w.heap.size (by omega)).trans BB0.out)
    clear hv1 c0 c1 c2 c3 c4 c5 c6 c7
    go_wp2_with fail
    go_ret
    exact ⟨rfl, HB1.out⟩
theorem g_needs (nm : ByteArray) (f kd : Int) (w : World) : Calls Try.prog 60 #[.agg #[.string nm, .int .i64 f, .int .i64 kd]] w (RetX (.bool (decide (kd = 3 ∨ kd = 4))) w) := by
  by_cases h : kd = 3
  · subst h
    go_enter Try.func60, Try.ntmps60
    go_wp2
    go_ret
    exact ⟨rfl, (Below.refl _ _).alloc (Nat.le_refl _) _⟩
  · by_cases h4 : kd = 4
    · subst h4
      go_enter Try.func60, Try.ntmps60
      go_wp2
      go_ret
      exact ⟨rfl, (Below.refl _ _).alloc (Nat.le_refl _) _⟩
    · rw [decide_eq_false (by omega)]
      go_enter Try.func60, Try.ntmps60
      go_wp2
      go_ret
      exact ⟨by simp [h, h4], (Below.refl _ _).alloc (Nat.le_refl _) _⟩
def needI (k : KeyD) : Int := if k.kind = 3 ∨ k.kind = 4 then 1 else 0
def anyNeed (ks : List KeyD) : Prop := ∃ k ∈ ks, k.kind = 3 ∨ k.kind = 4
instance (ks : List KeyD) : Decidable (anyNeed ks) := by unfold anyNeed; infer_instance
theorem need_ix (ks : List KeyD) : (0 ≤ ixI 1 (ks.map needI) 0) ↔ anyNeed ks := by
  rcases ixI_is 1 (ks.map needI) 0 with ⟨h, hn⟩ | ⟨j, h, hj, _⟩
  · rw [h]
    refine ⟨fun h => absurd h (by decide), fun ⟨k, hk, hk2⟩ => absurd (List.mem_map.2 ⟨k, hk, ?_⟩) hn⟩
    unfold needI
    rw [if_pos hk2]
  · rw [h]
    refine ⟨fun _ => ?_, fun _ => by omega⟩
    rw [List.getElem?_map] at hj
    obtain ⟨k, hk, hk2⟩ := Option.map_eq_some_iff.1 hj
    refine ⟨k, List.mem_of_getElem? hk, ?_⟩
    unfold needI at hk2
    by_cases h : k.kind = 3 ∨ k.kind = 4
    · exact h
    · rw [if_neg h] at hk2; exact absurd hk2 (by decide)
set_option maxRecDepth 100000 in
set_option maxHeartbeats 2000000 in
theorem g_ix_need (w : World) (B : Nat) (A : Option Addr) (n c : Nat) (xs : List KeyD) (h : RowV 3 KeyV B w (.slice A n c) xs) (hB : B ≤ w.heap.size) :
    Calls Try.prog 71 #[.slice A n c, .func (.func 60) #[] #[]] w (RetX (.int .i64 (ixI 1 (xs.map needI) 0)) w) := by
  obtain ⟨hn, hc, hm⟩ := h.len
  have HR := Lib.hid h
  obtain ⟨r, hr⟩ : ∃ r, r = ixI 1 (xs.map needI) 0 := ⟨_, rfl⟩
  rw [← hr]
  have HRR : Hid (r = ixI 1 (xs.map needI) 0) := Lib.hid hr
  clear h hr
  go_enter Try.func71, Try.ntmps71
  go_wp2_with fail
  go_loopw [8] (fun i w' => ∃ k : Nat, k ≤ n ∧ i = .int .i64 k ∧ Below w.heap.size w w' ∧ Hid (r = ixI 1 ((xs.map needI).drop k) k)) (fun i _ => n - (intOf i).toNat)
  case atStart => exact ⟨0, by omega, rfl, Below.refl _ _, HRR⟩
  case round =>
    obtain ⟨k, hk, rfl, hb, hxh⟩ := hrel
    have hx := hxh.out
    clear hxh HRR
    have HB := Lib.hid hb
    clear hb
    by_cases hlt : k < n
    · have hkI : (k : Int) < (n : Int) := by omega
      have hkc : (k : Int) < (c : Int) := by omega
      have hk0 : 0 ≤ (k : Int) := by omega
      obtain ⟨g, oo, e1, x, hxk, _, cs, hcs, hV⟩ := row_at (HR.out.below kept_key (HB.out.mono hB)) (q := k) (by rw [← hn.out]; exact hlt)
      have hlen : k < (xs.map needI).length := by rw [List.length_map, ← hn.out]; exact hlt
      have hdr : (xs.map needI).drop k = needI x :: (xs.map needI).drop (k + 1) := by
        rw [List.drop_eq_getElem_cons hlen]
        congr 1
        have := List.getElem?_eq_some_iff.1 (show (xs.map needI)[k]? = some (needI x) by rw [List.getElem?_map, hxk]; rfl)
        exact this.2
      rw [hdr, ixI] at hx
      obtain ⟨rfl, -⟩ := hV
      subst e1
      have d0 : wr.cell? ⟨g, oo + k * 3, none⟩ = some _ := hcs.at0 _ rfl
      have d1 : wr.cell? ⟨g, oo + k * 3 + 1, none⟩ = some _ := hcs.at 1 _ rfl
      have d2 : wr.cell? ⟨g, oo + k * 3 + 2, none⟩ = some _ := hcs.at 2 _ rfl
      have HX := Lib.hid hx
      clear hdr hx hcs hxk hlen
      go_wp2_with fail
      go_at_call 60
      refine (g_needs _ _ _ _).mono ?_
      rintro e w1 ⟨rfl, hb1⟩
      have HB1 := Lib.hid (HB.out.trans (hb1.mono HB.out.size))
      clear hb1
      by_cases hi0 : x.kind = 3 ∨ x.kind = 4
      · have hi : needI x = 1 := by unfold needI; rw [if_pos hi0]
        have hval : r = (k : Int) := by rw [HX.out, if_pos hi]
        rw [decide_eq_true hi0]
        clear hi hi0
        subst hval
        clear HX
        go_wp2_with fail
        go_ret
        exact ⟨rfl, HB1.out⟩
      · have hi : ¬ needI x = 1 := by unfold needI; rw [if_neg hi0]; decide
        have hval : r = ixI 1 ((xs.map needI).drop (k + 1)) (k + 1) := by rw [HX.out, if_neg hi]
        have HVAL := Lib.hid hval
        clear hval HX
        rw [decide_eq_false hi0]
        clear hi hi0
        go_wp2_with fail
        go_roundw
        case rel => (go_light; exact ⟨k + 1, by omega, by simp, HB1.out, HVAL⟩)
        case measure => simp [intOf]; omega
    · have hkI : ¬ (k : Int) < (n : Int) := by omega
      have hval : r = -1 := by rw [hx, List.drop_of_length_le (by rw [List.length_map, ← hn.out]; omega)]; rfl
      subst hval
      clear hx
      go_wp2_with fail
      go_ret
      exact ⟨rfl, HB.out⟩
def prioM (ks : List KeyD) (pr : Int) : Prop := if anyNeed ks then 1 ≤ pr ∧ pr ≤ 65535 else pr = 0
instance (ks : List KeyD) (pr : Int) : Decidable (prioM ks pr) := by unfold prioM; infer_instance
set_option maxRecDepth 100000 in
set_option maxHeartbeats 1000000 in
theorem g_anyNeed (w : World) (B : Nat) (A : Option Addr) (n c : Nat) (xs : List KeyD) (h : RowV 3 KeyV B w (.slice A n c) xs) (hB : B ≤ w.heap.size) :
    Calls Try.prog 59 #[.slice A n c, .func (.func 60) #[] #[]] w (RetX (.bool (decide (anyNeed xs))) w) := by
  have K := g_ix_need w B A n c xs h hB
  have e := need_ix xs
  obtain ⟨r, hr⟩ : ∃ r, r = ixI 1 (xs.map needI) 0 := ⟨_, rfl⟩
  rw [← hr] at K e
  have KK := Lib.hid K
  obtain ⟨b, hb⟩ := some_bool (anyNeed xs)
  rw [dec_of hb]
  have hd : decide (0 ≤ r) = b := dec_of (hb.trans e.symm)
  have HD := Lib.hid hd
  clear h K e hr hb hd
  go_enter Try.func59, Try.ntmps59
  go_wp2_with fail
  refine KK.out.mono ?_
  rintro en w1 ⟨rfl, hv1⟩
  go_wp2_with fail
  go_ret
  exact ⟨by simp [HD.out], hv1⟩
set_option maxRecDepth 100000 in
set_option maxHeartbeats 1000000 in
theorem g_prioFits (w : World) (B : Nat) (A : Option Addr) (n c : Nat) (xs : List KeyD) (h : RowV 3 KeyV B w (.slice A n c) xs) (hB : B ≤ w.heap.size) (pr : Int) :
    Calls Try.prog 51 #[.slice A n c, .int .i64 pr] w (RetX (.bool (decide (prioM xs pr))) w) := by
  have KK := Lib.hid (g_anyNeed w B A n c xs h hB)
  obtain ⟨b, hb⟩ := some_bool (prioM xs pr)
  rw [dec_of hb]
  have HB := Lib.hid hb
  clear h hb
  by_cases ha : anyNeed xs
  · have FD := Lib.hid (decide_eq_true ha)
    have hE : prioM xs pr ↔ 1 ≤ pr ∧ pr ≤ 65535 := by unfold prioM; rw [if_pos ha]
    have HE := Lib.hid (HB.out.trans hE)
    clear ha hE
    by_cases h1 : 1 ≤ pr
    · obtain rfl : b = decide (pr ≤ 65535) := (dec_of (HE.out.trans ⟨fun h => h.2, fun h => ⟨h1, h⟩⟩)).symm
      go_enter Try.func51, Try.ntmps51
      go_wp2_with fail
      refine KK.out.mono ?_
      rintro en w1 ⟨rfl, hv1⟩
      rw [FD.out]
      go_wp2_with fail
      go_ret
      exact ⟨by simp, hv1⟩
    · obtain rfl : b = false := bool_no HE.out (fun h => h1 h.1)
      go_enter Try.func51, Try.ntmps51
      go_wp2_with fail
      refine KK.out.mono ?_
      rintro en w1 ⟨rfl, hv1⟩
      rw [FD.out]
      go_wp2_with fail
      go_ret
      exact ⟨rfl, hv1⟩
  · have FD := Lib.hid (decide_eq_false ha)
    have hE : prioM xs pr ↔ pr = 0 := by unfold prioM; rw [if_neg ha]
    obtain rfl : b = decide (pr = 0) := (dec_of (HB.out.trans hE)).symm
    clear ha hE HB
    go_enter Try.func51, Try.ntmps51
    go_wp2_with fail
    refine KK.out.mono ?_
    rintro en w1 ⟨rfl, hv1⟩
    rw [FD.out]
    go_wp2_with fail
    go_ret
    exact ⟨by first | rfl | simp [beq_eq_decide], hv1⟩
theorem fbits_is (fs : List FieldD) (id : Int) : (ixI id (fs.map (·.id)) 0 = -1 ∧ fbits fs id = 0) ∨ ∃ j f, ixI id (fs.map (·.id)) 0 = ((j : Nat) : Int) ∧ fs[j]? = some f ∧ fbits fs id = f.bits := by
  have key : ∀ (l : List FieldD) (k : Nat), (ixI id (l.map (·.id)) k = -1 ∧ fbits l id = 0) ∨ ∃ j f, ixI id (l.map (·.id)) k = ((k + j : Nat) : Int) ∧ l[j]? = some f ∧ fbits l id = f.bits := by
    intro l
    induction l with
    | nil => exact fun k => .inl ⟨rfl, rfl⟩
    | cons f r ih =>
      intro k
      rw [List.map_cons, ixI, fbits]
      by_cases h : f.id = id
      · rw [if_pos h, if_pos h]; exact .inr ⟨0, f, rfl, rfl, rfl⟩
      · rw [if_neg h, if_neg h]
        rcases ih (k + 1) with h1 | ⟨j, g, h1, h2, h3⟩
        · exact .inl h1
        · exact .inr ⟨j + 1, g, by rw [h1]; congr 1; omega, by simpa using h2, h3⟩
  rcases key fs 0 with h | ⟨j, f, h1, h2, h3⟩
  · exact .inl h
  · rw [Nat.zero_add] at h1; exact .inr ⟨j, f, h1, h2, h3⟩
set_option maxRecDepth 100000 in
set_option maxHeartbeats 1000000 in
theorem g_bitsOf (w : World) (B : Nat) (A0 : Option Addr) (n0 c0 : Nat) (fs : List FieldD) (h : RowV 3 FieldV B w (.slice A0 n0 c0) fs) (hB : B ≤ w.heap.size) (s1 s2 s3 s4 s5 s6 s7 s8 s9 : Value) (nm : ByteArray) (fd kd : Int) :
    Calls Try.prog 50 #[.agg #[.slice A0 n0 c0, s1, s2, s3, s4, s5, s6, s7, s8, s9], .agg #[.string nm, .int .i64 fd, .int .i64 kd]] w (RetX (.int .i64 (fbits fs fd)) w) := by
  obtain ⟨hn, hc, hm⟩ := h.len
  obtain ⟨W0, hW0⟩ : ∃ W, W = ((w.alloc (.cells #[.slice A0 n0 c0, s1, s2, s3, s4, s5, s6, s7, s8, s9] 39)).alloc (.cells #[.string nm, .int .i64 fd, .int .i64 kd] 73)) := ⟨_, rfl⟩
  have hB0 : Below w.heap.size w W0 := by rw [hW0]; exact (((Below.refl w.heap.size w).alloc (by simp <;> omega) _).alloc (by simp <;> omega) _)
  have hz0 : W0.heap.size = w.heap.size + 2 := by rw [hW0]; simp
  have b0_0 : W0.heap[w.heap.size]? = some (.cells #[.slice A0 n0 c0, s1, s2, s3, s4, s5, s6, s7, s8, s9] 39 (0, 0)) := by
    rw [hW0]
    exact (((Below.refl (w.alloc (.cells #[.slice A0 n0 c0, s1, s2, s3, s4, s5, s6, s7, s8, s9] 39)).heap.size (w.alloc (.cells #[.slice A0 n0 c0, s1, s2, s3, s4, s5, s6, s7, s8, s9] 39))).alloc (by simp <;> omega) _).block w.heap.size (by simp)).trans (heap_alloc_new _ _)
  have b0_1 : W0.heap[w.heap.size + 1]? = some (.cells #[.string nm, .int .i64 fd, .int .i64 kd] 73 (0, 0)) := by
    rw [hW0]
    rw [show w.heap.size + 1 = (w.alloc (.cells #[.slice A0 n0 c0, s1, s2, s3, s4, s5, s6, s7, s8, s9] 39)).heap.size by simp]
    exact heap_alloc_new _ _
  have KX := Lib.hid (g_FieldOf W0 B A0 n0 c0 fs (h.below kept_field (hB0.mono hB)) (Nat.le_trans hB hB0.size) s1 s2 s3 s4 s5 s6 s7 s8 s9 fd)
  have HRW := Lib.hid (h.below kept_field (hB0.mono hB))
  have BB0 := Lib.hid b0_0
  have x0 : W0.cell? ⟨w.heap.size, 0, none⟩ = some (.slice A0 n0 c0) := blk_cell b0_0 0 _ rfl
  have x1 : W0.cell? ⟨w.heap.size, 1, none⟩ = some (s1) := blk_cell b0_0 1 _ rfl
  have x2 : W0.cell? ⟨w.heap.size, 2, none⟩ = some (s2) := blk_cell b0_0 2 _ rfl
  have x3 : W0.cell? ⟨w.heap.size, 3, none⟩ = some (s3) := blk_cell b0_0 3 _ rfl
  have x4 : W0.cell? ⟨w.heap.size, 4, none⟩ = some (s4) := blk_cell b0_0 4 _ rfl
  have x5 : W0.cell? ⟨w.heap.size, 5, none⟩ = some (s5) := blk_cell b0_0 5 _ rfl
  have x6 : W0.cell? ⟨w.heap.size, 6, none⟩ = some (s6) := blk_cell b0_0 6 _ rfl
  have x7 : W0.cell? ⟨w.heap.size, 7, none⟩ = some (s7) := blk_cell b0_0 7 _ rfl
  have x8 : W0.cell? ⟨w.heap.size, 8, none⟩ = some (s8) := blk_cell b0_0 8 _ rfl
  have x9 : W0.cell? ⟨w.heap.size, 9, none⟩ = some (s9) := blk_cell b0_0 9 _ rfl
  have k0 : W0.cell? ⟨w.heap.size + 1, 0, none⟩ = some (.string nm) := blk_cell b0_1 0 _ rfl
  have k1 : W0.cell? ⟨w.heap.size + 1, 1, none⟩ = some (.int .i64 fd) := blk_cell b0_1 1 _ rfl
  have k2 : W0.cell? ⟨w.heap.size + 1, 2, none⟩ = some (.int .i64 kd) := blk_cell b0_1 2 _ rfl
  have HB0 := Lib.hid hB0
  have HW0 := Lib.hid hW0
  clear h hB0 hW0 b0_0 b0_1
  rcases fbits_is fs fd with ⟨e1, e2⟩ | ⟨j, f, e1, e2, e3⟩
  · rw [e2]
    rw [e1] at KX
    clear e1 e2
    go_enter Try.func50, Try.ntmps50
    go_upto_region 1 with fail
    rw [← HW0.out]
    go_wp2_with fail
    refine KX.out.mono ?_
    rintro en w1 ⟨rfl, hv1⟩
    have HB1 := Lib.hid (HB0.out.trans (hv1.mono HB0.out.size))
    clear hv1
    go_wp2_with fail
    go_ret
    exact ⟨rfl, HB1.out⟩
  · rw [e3]
    rw [e1] at KX
    have hj : j < fs.length := (List.getElem?_eq_some_iff.1 e2).1
    have hj1 : ¬ (j : Int) < 0 := by omega
    have hj2 : (j : Int) < (n0 : Int) := by rw [hn.out]; omega
    have hj3 : (j : Int) < (c0 : Int) := by omega
    have hj0 : 0 ≤ (j : Int) := by omega
    have HE2 := Lib.hid e2
    clear e1 e2 e3
    go_enter Try.func50, Try.ntmps50
    go_upto_region 1 with fail
    rw [← HW0.out]
    go_wp2_with fail
    refine KX.out.mono ?_
    rintro en w1 ⟨rfl, hv1⟩
    have HB1 := Lib.hid (HB0.out.trans (hv1.mono HB0.out.size))
    have c0' : w1.cell? ⟨w.heap.size, 0, none⟩ = some (.slice A0 n0 c0) := blk_cell ((hv1.block w.heap.size (by omega)).trans BB0.out) 0 _ rfl
    obtain ⟨g, oo, e1, z, hzk, _, cs, hcs, hV⟩ := row_at (HRW.out.below kept_field (hv1.mono (Nat.le_trans hB HB0.out.size))) hj
    obtain rfl : f = z := by have := HE2.out; rw [hzk] at this; injection this with this; exact this.symm
    obtain ⟨rfl, -⟩ := hV
    subst e1
    have d2 : w1.cell? ⟨g, oo + j * 3 + 2, none⟩ = some _ := hcs.at 2 _ rfl
    clear hv1 hcs hzk HRW
    go_wp2_with fail
    go_ret
    exact ⟨rfl, HB1.out⟩
def firstBad (fs : List FieldD) : List KeyD → List MatchD → Int
  | k :: ks, m :: ms => if checkM m k.kind (fbits fs k.field) = 0 then firstBad fs ks ms else checkM m k.kind (fbits fs k.field)
  | _, _ => 0
def keyE (fs : List FieldD) (ts : List TableD) (e : EntryD) : Int := match tblAt ts e.table with
  | none => 6
  | some t => if e.ms.length = t.keys.length then (if firstBad fs t.keys e.ms = 0 then (if prioM t.keys e.prio then 0 else 14) else firstBad fs t.keys e.ms) else 13
theorem drop_cons {α : Type} {l : List α} {q : Nat} {x : α} (h : l[q]? = some x) : l.drop q = x :: l.drop (q + 1) := by
  obtain ⟨a, b⟩ := List.getElem?_eq_some_iff.1 h
  rw [List.drop_eq_getElem_cons a, b]
set_option maxRecDepth 100000 in
set_option maxHeartbeats 1000000 in
theorem g_CheckKey (w : World) (B : Nat) (A0 : Option Addr) (n0 c0 : Nat) (fs : List FieldD) (h0 : RowV 3 FieldV B w (.slice A0 n0 c0) fs) (A4 : Option Addr) (n4 c4 : Nat) (ts : List TableD) (h4 : RowV 8 TableV B w (.slice A4 n4 c4) ts) (hB : B ≤ w.heap.size) (s1 s2 s3 s5 s6 s7 s8 s9 : Value) (e : EntryD) (A1 : Option Addr) (m1 k1 : Nat) (u : Value) (hr : RowV 8 MatchV B w (.slice A1 m1 k1) e.ms) :
    Calls Try.prog 38 #[.agg #[.slice A0 n0 c0, s1, s2, s3, .slice A4 n4 c4, s5, s6, s7, s8, s9], .agg #[.int .i64 e.table, .slice A1 m1 k1, .int .i64 e.prio, .int .i64 e.action, u]] w (RetX (.int .i64 (keyE fs ts e)) w) := by
  obtain ⟨hn1, hc1, hm1⟩ := hr.len
  obtain ⟨W0, hW0⟩ : ∃ W, W = ((w.alloc (.cells #[.slice A0 n0 c0, s1, s2, s3, .slice A4 n4 c4, s5, s6, s7, s8, s9] 39)).alloc (.cells #[.int .i64 e.table, .slice A1 m1 k1, .int .i64 e.prio, .int .i64 e.action, u] 26)) := ⟨_, rfl⟩
  have hB0 : Below w.heap.size w W0 := by rw [hW0]; exact (((Below.refl w.heap.size w).alloc (by simp <;> omega) _).alloc (by simp <;> omega) _)
  have hz0 : W0.heap.size = w.heap.size + 2 := by rw [hW0]; simp
  have b0_0 : W0.heap[w.heap.size]? = some (.cells #[.slice A0 n0 c0, s1, s2, s3, .slice A4 n4 c4, s5, s6, s7, s8, s9] 39 (0, 0)) := by
    rw [hW0]
    exact (((Below.refl (w.alloc (.cells #[.slice A0 n0 c0, s1, s2, s3, .slice A4 n4 c4, s5, s6, s7, s8, s9] 39)).heap.size (w.alloc (.cells #[.slice A0 n0 c0, s1, s2, s3, .slice A4 n4 c4, s5, s6, s7, s8, s9] 39))).alloc (by simp <;> omega) _).block w.heap.size (by simp)).trans (heap_alloc_new _ _)
  have b0_1 : W0.heap[w.heap.size + 1]? = some (.cells #[.int .i64 e.table, .slice A1 m1 k1, .int .i64 e.prio, .int .i64 e.action, u] 26 (0, 0)) := by
    rw [hW0]
    rw [show w.heap.size + 1 = (w.alloc (.cells #[.slice A0 n0 c0, s1, s2, s3, .slice A4 n4 c4, s5, s6, s7, s8, s9] 39)).heap.size by simp]
    exact heap_alloc_new _ _
  have KX := Lib.hid (g_tableOf W0 B A4 n4 c4 ts (h4.below kept_table (hB0.mono hB)) (Nat.le_trans hB hB0.size) (.slice A0 n0 c0) s1 s2 s3 s5 s6 s7 s8 s9 (.slice A1 m1 k1) (.int .i64 e.prio) (.int .i64 e.action) u e.table)
  have HR0 := Lib.hid h0
  have HRM := Lib.hid hr
  have HB0 := Lib.hid hB0
  have HW0 := Lib.hid hW0
  have BB0 := Lib.hid b0_0
  have BB1 := Lib.hid b0_1
  obtain ⟨r, hrr⟩ : ∃ r, r = keyE fs ts e := ⟨_, rfl⟩
  rw [← hrr]
  have HPR := Lib.hid hrr
  have x0 : W0.cell? ⟨w.heap.size, 0, none⟩ = some (.slice A0 n0 c0) := blk_cell b0_0 0 _ rfl
  have x1 : W0.cell? ⟨w.heap.size, 1, none⟩ = some (s1) := blk_cell b0_0 1 _ rfl
  have x2 : W0.cell? ⟨w.heap.size, 2, none⟩ = some (s2) := blk_cell b0_0 2 _ rfl
  have x3 : W0.cell? ⟨w.heap.size, 3, none⟩ = some (s3) := blk_cell b0_0 3 _ rfl
  have x4 : W0.cell? ⟨w.heap.size, 4, none⟩ = some (.slice A4 n4 c4) := blk_cell b0_0 4 _ rfl
  have x5 : W0.cell? ⟨w.heap.size, 5, none⟩ = some (s5) := blk_cell b0_0 5 _ rfl
  have x6 : W0.cell? ⟨w.heap.size, 6, none⟩ = some (s6) := blk_cell b0_0 6 _ rfl
  have x7 : W0.cell? ⟨w.heap.size, 7, none⟩ = some (s7) := blk_cell b0_0 7 _ rfl
  have x8 : W0.cell? ⟨w.heap.size, 8, none⟩ = some (s8) := blk_cell b0_0 8 _ rfl
  have x9 : W0.cell? ⟨w.heap.size, 9, none⟩ = some (s9) := blk_cell b0_0 9 _ rfl
  have y0 : W0.cell? ⟨w.heap.size + 1, 0, none⟩ = some (.int .i64 e.table) := blk_cell b0_1 0 _ rfl
  have y1 : W0.cell? ⟨w.heap.size + 1, 1, none⟩ = some (.slice A1 m1 k1) := blk_cell b0_1 1 _ rfl
  have y2 : W0.cell? ⟨w.heap.size + 1, 2, none⟩ = some (.int .i64 e.prio) := blk_cell b0_1 2 _ rfl
  have y3 : W0.cell? ⟨w.heap.size + 1, 3, none⟩ = some (.int .i64 e.action) := blk_cell b0_1 3 _ rfl
  have y4 : W0.cell? ⟨w.heap.size + 1, 4, none⟩ = some (u) := blk_cell b0_1 4 _ rfl
  clear h0 h4 hr hB0 hW0 b0_0 b0_1 hrr
  go_enter Try.func38, Try.ntmps38
  go_upto_region 1 with fail
  rw [← HW0.out]
  go_wp2_with fail
  refine KX.out.mono ?_
  rintro en w1 ⟨vk, va, vr, rfl, rk, ra, rr, hb1⟩
  obtain ⟨Ak, nk, ck, rfl, hnk, hck, hmk⟩ := rk.parts
  obtain ⟨Aa, na, ca, rfl, _⟩ := ra.parts
  obtain ⟨Ar, nr, cr, rfl, _⟩ := rr.parts
  have hz1 : w.heap.size + 2 ≤ w1.heap.size := by have := hb1.size; omega
  obtain ⟨tb, htb⟩ : ∃ tb, tb = tabOr ts e.table := ⟨_, rfl⟩
  have HTB := Lib.hid htb
  rw [← htb] at rk hnk ⊢
  obtain ⟨W2, hW2⟩ : ∃ W, W = w1.alloc (.cells #[.int .i64 tb.id, .string (strL tb.name), .slice Ak nk ck, .slice Aa na ca, .int .i64 tb.dflt, .slice Ar nr cr, .int .i64 tb.size, .string (strL tb.restr)] 70) := ⟨_, rfl⟩
  have hb2 : Below w1.heap.size w1 W2 := by rw [hW2]; exact (Below.refl _ _).alloc (Nat.le_refl _) _
  have hz2 : W2.heap.size = w1.heap.size + 1 := by rw [hW2]; simp
  have bt2 : W2.heap[w1.heap.size]? = some (.cells #[.int .i64 tb.id, .string (strL tb.name), .slice Ak nk ck, .slice Aa na ca, .int .i64 tb.dflt, .slice Ar nr cr, .int .i64 tb.size, .string (strL tb.restr)] 70 (0, 0)) := by rw [hW2]; exact heap_alloc_new _ _
  have hb12 := hb1.trans (hb2.mono hb1.size)
  have bs2 := (hb12.block w.heap.size (by omega)).trans BB0.out
  have be2 := (hb12.block (w.heap.size + 1) (by omega)).trans BB1.out
  have HB2 := Lib.hid (HB0.out.trans (hb12.mono HB0.out.size))
  have HRK := Lib.hid (rk.below kept_key (hb2.mono (by omega : B ≤ w1.heap.size)))
  have HW2 := Lib.hid hW2
  have BS2 := Lib.hid bs2
  have BE2 := Lib.hid be2
  have BT2 := Lib.hid bt2
  clear rk ra rr hb1 hW2 hb2 bt2 hb12 bs2 be2 htb KX x0 x1 x2 x3 x4 x5 x6 x7 x8 x9 y0 y1 y2 y3 y4
  rcases tbl_is ts e.table with ⟨-, et⟩ | ⟨j, t, -, -, -, et⟩
  · have hval : r = 6 := by rw [HPR.out]; unfold keyE; rw [et]
    subst hval
    rw [et]
    clear et
    go_upto_region 3 with fail
    rw [← HW2.out]
    go_wp2_with fail
    go_ret
    exact ⟨rfl, HB2.out⟩
  · obtain rfl : tb = t := by rw [HTB.out]; unfold tabOr; rw [et]; rfl
    have hval : r = if e.ms.length = tb.keys.length then (if firstBad fs tb.keys e.ms = 0 then (if prioM tb.keys e.prio then 0 else 14) else firstBad fs tb.keys e.ms) else 13 := by rw [HPR.out]; unfold keyE; rw [et]
    have HV := Lib.hid hval
    rw [et]
    clear et hval HTB HPR
    have y1 : W2.cell? ⟨w.heap.size + 1, 1, none⟩ = some (.slice A1 m1 k1) := blk_cell BE2.out 1 _ rfl
    have y2 : W2.cell? ⟨w.heap.size + 1, 2, none⟩ = some (.int .i64 e.prio) := blk_cell BE2.out 2 _ rfl
    have z2 : W2.cell? ⟨w1.heap.size, 2, none⟩ = some (.slice Ak nk ck) := blk_cell BT2.out 2 _ rfl
    by_cases hl : m1 = nk
    · have hlI : (m1 : Int) = (nk : Int) := by omega
      have hll : e.ms.length = tb.keys.length := by rw [← hn1.out, ← hnk.out, hl]
      have hF := HV.out
      rw [if_pos hll] at hF
      obtain ⟨F, hFF⟩ : ∃ F, F = firstBad fs tb.keys e.ms := ⟨_, rfl⟩
      rw [← hFF] at hF
      have HF := Lib.hid hF
      have HFF : Hid (F = firstBad fs (tb.keys.drop 0) (e.ms.drop 0)) := Lib.hid hFF
      have HLL := Lib.hid hll
      subst hl
      clear hF hFF hll HV
      go_upto_region 2 with fail
      rw [← HW2.out]
      go_wp2_with fail
      go_loopw [28] (fun i W => ∃ q : Nat, q ≤ m1 ∧ i = .int .i64 q ∧ Below W2.heap.size W2 W ∧ Hid (F = firstBad fs (tb.keys.drop q) (e.ms.drop q))) (fun i _ => m1 - (intOf i).toNat)
      case atStart => exact ⟨0, by omega, rfl, Below.refl _ _, HFF⟩
      case round =>
        clear y1 y2 z2 HFF
        obtain ⟨q, hq, rfl, hbq, hxh⟩ := hrel
        have HBQ := Lib.hid hbq
        have hzr := hbq.size
        have bsr := (hbq.block w.heap.size (by omega)).trans BS2.out
        have ber := (hbq.block (w.heap.size + 1) (by omega)).trans BE2.out
        have btr := (hbq.block w1.heap.size (by omega)).trans BT2.out
        by_cases hlt : q < m1
        · have hkI : (q : Int) < (m1 : Int) := by omega
          have hkc : (q : Int) < (ck : Int) := by omega
          have hkc1 : (q : Int) < (k1 : Int) := by omega
          have hk0 : 0 ≤ (q : Int) := by omega
          have hBw : Below B w wr := (HB2.out.mono hB).trans (hbq.mono (by have := HB2.out.size; omega))
          obtain ⟨kb, ko, e1, k, hkk, _, cs, hcs, hV⟩ := row_at (HRK.out.below kept_key (hbq.mono (by have := HB2.out.size; omega))) (q := q) (by rw [← hnk.out]; exact hlt)
          obtain ⟨mb, mo, e2, m, hmm, hmbB, ds, hds, hVM⟩ := row_at (HRM.out.below kept_match hBw) (q := q) (by rw [← hn1.out]; exact hlt)
          obtain ⟨rfl, -⟩ := hV
          obtain ⟨rfl, hmok⟩ := hVM
          subst e1
          subst e2
          have d0 : wr.cell? ⟨kb, ko + q * 3, none⟩ = some _ := hcs.at0 _ rfl
          have d1 : wr.cell? ⟨kb, ko + q * 3 + 1, none⟩ = some _ := hcs.at 1 _ rfl
          have d2 : wr.cell? ⟨kb, ko + q * 3 + 2, none⟩ = some _ := hcs.at 2 _ rfl
          have hx := hxh.out
          rw [drop_cons hkk, drop_cons hmm, firstBad] at hx
          obtain ⟨W3, hW3⟩ : ∃ W, W = wr.alloc (.cells #[.string (strL k.name), .int .i64 k.field, .int .i64 k.kind] 73) := ⟨_, rfl⟩
          have hb3 : Below wr.heap.size wr W3 := by rw [hW3]; exact (Below.refl _ _).alloc (Nat.le_refl _) _
          have hz3 : W3.heap.size = wr.heap.size + 1 := by rw [hW3]; simp
          have bk3 : W3.heap[wr.heap.size]? = some (.cells #[.string (strL k.name), .int .i64 k.field, .int .i64 k.kind] 73 (0, 0)) := by rw [hW3]; exact heap_alloc_new _ _
          have HBK3 := Lib.hid bk3
          have HDS := Lib.hid hds
          have HKS : Hid (∀ w', Below W3.heap.size W3 w' → Below W3.heap.size W3 w' ∧ w'.cell? ⟨w.heap.size, 0, none⟩ = some (.slice A0 n0 c0) ∧ w'.cell? ⟨w.heap.size, 1, none⟩ = some (s1) ∧ w'.cell? ⟨w.heap.size, 2, none⟩ = some (s2) ∧ w'.cell? ⟨w.heap.size, 3, none⟩ = some (s3) ∧ w'.cell? ⟨w.heap.size, 4, none⟩ = some (.slice A4 n4 c4) ∧ w'.cell? ⟨w.heap.size, 5, none⟩ = some (s5) ∧ w'.cell? ⟨w.heap.size, 6, none⟩ = some (s6) ∧ w'.cell? ⟨w.heap.size, 7, none⟩ = some (s7) ∧ w'.cell? ⟨w.heap.size, 8, none⟩ = some (s8) ∧ w'.cell? ⟨w.heap.size, 9, none⟩ = some (s9) ∧ w'.cell? ⟨w.heap.size + 1, 0, none⟩ = some (.int .i64 e.table) ∧ w'.cell? ⟨w.heap.size + 1, 1, none⟩ = some (.slice (some ⟨mb, mo, none⟩) m1 k1) ∧ w'.cell? ⟨w.heap.size + 1, 2, none⟩ = some (.int .i64 e.prio) ∧ w'.cell? ⟨w.heap.size + 1, 3, none⟩ = some (.int .i64 e.action) ∧ w'.cell? ⟨w.heap.size + 1, 4, none⟩ = some (u) ∧ w'.cell? ⟨wr.heap.size, 0, none⟩ = some (.string (strL k.name)) ∧ w'.cell? ⟨wr.heap.size, 1, none⟩ = some (.int .i64 k.field) ∧ w'.cell? ⟨wr.heap.size, 2, none⟩ = some (.int .i64 k.kind) ∧ w'.cell? ⟨mb, mo + q * 8, none⟩ = some (.bool m.pres) ∧ w'.cell? ⟨mb, mo + q * 8 + 1, none⟩ = some (.int .u64 (hi m.val)) ∧ w'.cell? ⟨mb, mo + q * 8 + 2, none⟩ = some (.int .u64 (lo m.val)) ∧ w'.cell? ⟨mb, mo + q * 8 + 3, none⟩ = some (.int .u64 (hi m.mask)) ∧ w'.cell? ⟨mb, mo + q * 8 + 4, none⟩ = some (.int .u64 (lo m.mask)) ∧ w'.cell? ⟨mb, mo + q * 8 + 5, none⟩ = some (.int .i64 m.pre) ∧ w'.cell? ⟨mb, mo + q * 8 + 6, none⟩ = some (.int .u64 (hi m.high)) ∧ w'.cell? ⟨mb, mo + q * 8 + 7, none⟩ = some (.int .u64 (lo m.high))) := Lib.hid fun w' hb => by
            have hb' := hb3.trans (hb.mono hb3.size)
            have q0 := (hb'.block w.heap.size (by omega)).trans bsr
            have q1 := (hb'.block (w.heap.size + 1) (by omega)).trans ber
            have q2 := (hb.block wr.heap.size (by omega)).trans bk3
            have qm : ∀ j v, [.bool m.pres, .int .u64 (hi m.val), .int .u64 (lo m.val), .int .u64 (hi m.mask), .int .u64 (lo m.mask), .int .i64 m.pre, .int .u64 (hi m.high), .int .u64 (lo m.high)][j]? = some v → w'.cell? ⟨mb, mo + q * 8 + j, none⟩ = some v := fun j v e => by
              rw [hb'.cell (p := ⟨mb, mo + q * 8 + j, none⟩) (show mb < wr.heap.size by omega)]
              exact HDS.out.at j v e
            exact ⟨hb, blk_cell q0 0 _ rfl, blk_cell q0 1 _ rfl, blk_cell q0 2 _ rfl, blk_cell q0 3 _ rfl, blk_cell q0 4 _ rfl, blk_cell q0 5 _ rfl, blk_cell q0 6 _ rfl, blk_cell q0 7 _ rfl, blk_cell q0 8 _ rfl, blk_cell q0 9 _ rfl, blk_cell q1 0 _ rfl, blk_cell q1 1 _ rfl, blk_cell q1 2 _ rfl, blk_cell q1 3 _ rfl, blk_cell q1 4 _ rfl, blk_cell q2 0 _ rfl, blk_cell q2 1 _ rfl, blk_cell q2 2 _ rfl, qm 0 _ rfl, qm 1 _ rfl, qm 2 _ rfl, qm 3 _ rfl, qm 4 _ rfl, qm 5 _ rfl, qm 6 _ rfl, qm 7 _ rfl⟩
          have KB : Hid (∀ W, Below W3.heap.size W3 W → Calls Try.prog 50 #[.agg #[.slice A0 n0 c0, s1, s2, s3, .slice A4 n4 c4, s5, s6, s7, s8, s9], .agg #[.string (strL k.name), .int .i64 k.field, .int .i64 k.kind]] W (RetX (.int .i64 (fbits fs k.field)) W)) := Lib.hid fun W hb =>
            g_bitsOf W B A0 n0 c0 fs (HR0.out.below kept_field (hBw.trans ((hb3.mono (by omega)).trans (hb.mono (by omega))))) (by have := hb.size; omega) s1 s2 s3 (.slice A4 n4 c4) s5 s6 s7 s8 s9 (strL k.name) k.field k.kind
          obtain ⟨C, hC⟩ : ∃ C, C = checkM m k.kind (fbits fs k.field) := ⟨_, rfl⟩
          rw [← hC] at hx
          have KC : Hid (∀ W, Calls Try.prog 49 #[.agg #[.bool m.pres, .int .u64 (hi m.val), .int .u64 (lo m.val), .int .u64 (hi m.mask), .int .u64 (lo m.mask), .int .i64 m.pre, .int .u64 (hi m.high), .int .u64 (lo m.high)], .int .i64 k.kind, .int .i64 (fbits fs k.field)] W (RetX (.int .i64 C) W)) := Lib.hid fun W => by rw [hC]; exact g_checkMatch m hmok k.kind (fbits fs k.field) W
          have HX := Lib.hid hx
          have HW3 := Lib.hid hW3
          have HB3 := Lib.hid (hbq.trans (hb3.mono hzr))
          clear hx hxh hC hcs hds hkk hmm hW3 hb3 bk3 hBw bsr ber btr hbq hmok
          go_upto_region 9 with fail
          rw [← HW3.out]
          clear d0 d1 d2
          go_region_held3 (fun w' => Below W3.heap.size W3 w' ∧ w'.cell? ⟨w.heap.size, 0, none⟩ = some (.slice A0 n0 c0) ∧ w'.cell? ⟨w.heap.size, 1, none⟩ = some (s1) ∧ w'.cell? ⟨w.heap.size, 2, none⟩ = some (s2) ∧ w'.cell? ⟨w.heap.size, 3, none⟩ = some (s3) ∧ w'.cell? ⟨w.heap.size, 4, none⟩ = some (.slice A4 n4 c4) ∧ w'.cell? ⟨w.heap.size, 5, none⟩ = some (s5) ∧ w'.cell? ⟨w.heap.size, 6, none⟩ = some (s6) ∧ w'.cell? ⟨w.heap.size, 7, none⟩ = some (s7) ∧ w'.cell? ⟨w.heap.size, 8, none⟩ = some (s8) ∧ w'.cell? ⟨w.heap.size, 9, none⟩ = some (s9) ∧ w'.cell? ⟨w.heap.size + 1, 0, none⟩ = some (.int .i64 e.table) ∧ w'.cell? ⟨w.heap.size + 1, 1, none⟩ = some (.slice (some ⟨mb, mo, none⟩) m1 k1) ∧ w'.cell? ⟨w.heap.size + 1, 2, none⟩ = some (.int .i64 e.prio) ∧ w'.cell? ⟨w.heap.size + 1, 3, none⟩ = some (.int .i64 e.action) ∧ w'.cell? ⟨w.heap.size + 1, 4, none⟩ = some (u) ∧ w'.cell? ⟨wr.heap.size, 0, none⟩ = some (.string (strL k.name)) ∧ w'.cell? ⟨wr.heap.size, 1, none⟩ = some (.int .i64 k.field) ∧ w'.cell? ⟨wr.heap.size, 2, none⟩ = some (.int .i64 k.kind) ∧ w'.cell? ⟨mb, mo + q * 8, none⟩ = some (.bool m.pres) ∧ w'.cell? ⟨mb, mo + q * 8 + 1, none⟩ = some (.int .u64 (hi m.val)) ∧ w'.cell? ⟨mb, mo + q * 8 + 2, none⟩ = some (.int .u64 (lo m.val)) ∧ w'.cell? ⟨mb, mo + q * 8 + 3, none⟩ = some (.int .u64 (hi m.mask)) ∧ w'.cell? ⟨mb, mo + q * 8 + 4, none⟩ = some (.int .u64 (lo m.mask)) ∧ w'.cell? ⟨mb, mo + q * 8 + 5, none⟩ = some (.int .i64 m.pre) ∧ w'.cell? ⟨mb, mo + q * 8 + 6, none⟩ = some (.int .u64 (hi m.high)) ∧ w'.cell? ⟨mb, mo + q * 8 + 7, none⟩ = some (.int .u64 (lo m.high)))
            (first
              | exact HKS.out _ (Below.drew (Below.refl _ _))
              | exact HKS.out _ (below_call (And.left (by assumption)) (by assumption))
              | assumption)
            (first
              | (go_at_call 50; (with_reducible refine (KB.out _ (And.left (by assumption))).mono ?_); rintro en v1 ⟨rfl, hv1⟩)
              | (go_at_call 49; (with_reducible refine (KC.out _).mono ?_); rintro en v2 ⟨rfl, hv2⟩))
          by_cases hc : C = 0
          · have HXF : Hid (F = firstBad fs (tb.keys.drop (q + 1)) (e.ms.drop (q + 1))) := Lib.hid (by rw [HX.out, if_pos hc])
            have hc0 := hc
            subst hc0
            all_goals go_wp2_with fail
            all_goals go_roundw
            all_goals have hBZ := And.left (by assumption : Below W3.heap.size W3 _ ∧ _)
            all_goals go_light
            case measure => simp [intOf]; omega
            case rel => exact ⟨q + 1, by omega, by simp, HB3.out.trans (hBZ.mono HB3.out.size), HXF⟩
          · have hFC : F = C := by rw [HX.out, if_neg hc]
            have hrC : r = C := by rw [HF.out, hFC, if_neg hc]
            all_goals go_wp2_with fail
            all_goals go_ret
            all_goals exact ⟨by rw [hrC]; rfl, HB2.out.trans ((HB3.out.trans ((And.left (by assumption : Below W3.heap.size W3 _ ∧ _)).mono HB3.out.size)).mono HB2.out.size)⟩
        · obtain rfl : m1 = q := by omega
          have hx := hxh.out
          rw [List.drop_eq_nil_of_le (by rw [← hnk.out]; exact Nat.le_refl _), List.drop_eq_nil_of_le (by rw [← hn1.out]; exact Nat.le_refl _)] at hx
          have hF0 : F = 0 := hx
          have hrP := HF.out
          rw [if_pos hF0] at hrP
          have hkI : ¬ (m1 : Int) < (m1 : Int) := by omega
          have y2 : wr.cell? ⟨w.heap.size + 1, 2, none⟩ = some (.int .i64 e.prio) := blk_cell ber 2 _ rfl
          have z2 : wr.cell? ⟨w1.heap.size, 2, none⟩ = some (.slice Ak m1 ck) := blk_cell btr 2 _ rfl
          have KP := Lib.hid (g_prioFits wr B Ak m1 ck tb.keys (HRK.out.below kept_key (hbq.mono (by have := HB2.out.size; omega))) (by have := HB2.out.size; omega) e.prio)
          clear hx hxh bsr ber btr hbq
          by_cases hp : prioM tb.keys e.prio
          · have hr0 : r = 0 := by rw [hrP, if_pos hp]
            have HR2 := Lib.hid hr0
            have HDP := Lib.hid (decide_eq_true hp)
            clear hr0 hp hrP
            go_wp2_with fail
            refine KP.out.mono ?_
            rintro en w4 ⟨rfl, hv4⟩
            rw [HDP.out]
            have HB4 := Lib.hid (HB2.out.trans ((HBQ.out.trans (hv4.mono HBQ.out.size)).mono HB2.out.size))
            clear hv4
            go_wp2_with fail
            go_ret
            exact ⟨by rw [HR2.out]; rfl, HB4.out⟩
          · have hr0 : r = 14 := by rw [hrP, if_neg hp]
            have HR2 := Lib.hid hr0
            have HDP := Lib.hid (decide_eq_false hp)
            clear hr0 hp hrP
            go_wp2_with fail
            refine KP.out.mono ?_
            rintro en w4 ⟨rfl, hv4⟩
            rw [HDP.out]
            have HB4 := Lib.hid (HB2.out.trans ((HBQ.out.trans (hv4.mono HBQ.out.size)).mono HB2.out.size))
            clear hv4
            go_wp2_with fail
            go_ret
            exact ⟨by rw [HR2.out]; rfl, HB4.out⟩
    · have hlI : ¬ (m1 : Int) = (nk : Int) := by omega
      have hval : r = 13 := by rw [HV.out, if_neg (by rw [← hn1.out, ← hnk.out]; exact hl)]
      subst hval
      clear HV
      go_upto_region 2 with fail
      rw [← HW2.out]
      go_wp2_with fail
      go_ret
      exact ⟨rfl, HB2.out⟩
end
/- The program's Covers. -/
section
open Go.RowKit

def covM (m : MatchD) (kd b : Int) (v : Nat) : Prop := if kd = 1 then (m.pres = true → v = m.val) else if kd = 2 then (m.pres = true → v &&& lead b m.pre = m.val &&& lead b m.pre) else if kd = 3 then (m.pres = true → v &&& m.mask = m.val) else if kd = 4 then (m.pres = true → m.val ≤ v ∧ v ≤ m.high) else False
instance (m : MatchD) (kd b : Int) (v : Nat) : Decidable (covM m kd b v) := by unfold covM; infer_instance
theorem cov1 (m : MatchD) (b : Int) (v : Nat) : covM m 1 b v ↔ (m.pres = true → v = m.val) := by unfold covM; rw [if_pos rfl]
theorem cov2 (m : MatchD) (b : Int) (v : Nat) : covM m 2 b v ↔ (m.pres = true → v &&& lead b m.pre = m.val &&& lead b m.pre) := by unfold covM; rw [if_neg (by decide), if_pos rfl]
theorem cov3 (m : MatchD) (b : Int) (v : Nat) : covM m 3 b v ↔ (m.pres = true → v &&& m.mask = m.val) := by unfold covM; rw [if_neg (by decide), if_neg (by decide), if_pos rfl]
theorem cov4 (m : MatchD) (b : Int) (v : Nat) : covM m 4 b v ↔ (m.pres = true → m.val ≤ v ∧ v ≤ m.high) := by unfold covM; rw [if_neg (by decide), if_neg (by decide), if_neg (by decide), if_pos rfl]
set_option maxRecDepth 100000 in
set_option maxHeartbeats 600000 in
theorem g_Covers (m : MatchD) (hm : MatchOk m) (kd b : Int) (v : Nat) (hv : v < 2 ^ 128) (w : World) : Calls Try.prog 39 #[.agg #[.bool m.pres, .int .u64 (hi m.val), .int .u64 (lo m.val), .int .u64 (hi m.mask), .int .u64 (lo m.mask), .int .i64 m.pre, .int .u64 (hi m.high), .int .u64 (lo m.high)], .int .i64 kd, .int .i64 b, .agg #[.int .u64 (hi v), .int .u64 (lo v)]] w (RetX (.bool (decide (covM m kd b v))) w) := by
  obtain ⟨r, hr⟩ := some_bool (covM m kd b v)
  rw [dec_of hr]
  have HM := Lib.hid hm
  have HV := Lib.hid hv
  clear hm
  obtain ⟨W0, hW0⟩ : ∃ W, W = ((w.alloc (.cells #[.bool m.pres, .int .u64 (hi m.val), .int .u64 (lo m.val), .int .u64 (hi m.mask), .int .u64 (lo m.mask), .int .i64 m.pre, .int .u64 (hi m.high), .int .u64 (lo m.high)] 75)).alloc (.cells #[.int .u64 (hi v), .int .u64 (lo v)] 29)) := ⟨_, rfl⟩
  have hB0 : Below w.heap.size w W0 := by rw [hW0]; exact (((Below.refl w.heap.size w).alloc (by simp <;> omega) _).alloc (by simp <;> omega) _)
  have hz0 : W0.heap.size = w.heap.size + 2 := by rw [hW0]; simp
  have b0_0 : W0.heap[w.heap.size]? = some (.cells #[.bool m.pres, .int .u64 (hi m.val), .int .u64 (lo m.val), .int .u64 (hi m.mask), .int .u64 (lo m.mask), .int .i64 m.pre, .int .u64 (hi m.high), .int .u64 (lo m.high)] 75 (0, 0)) := by
    rw [hW0]
    exact (((Below.refl (w.alloc (.cells #[.bool m.pres, .int .u64 (hi m.val), .int .u64 (lo m.val), .int .u64 (hi m.mask), .int .u64 (lo m.mask), .int .i64 m.pre, .int .u64 (hi m.high), .int .u64 (lo m.high)] 75)).heap.size (w.alloc (.cells #[.bool m.pres, .int .u64 (hi m.val), .int .u64 (lo m.val), .int .u64 (hi m.mask), .int .u64 (lo m.mask), .int .i64 m.pre, .int .u64 (hi m.high), .int .u64 (lo m.high)] 75))).alloc (by simp <;> omega) _).block w.heap.size (by simp)).trans (heap_alloc_new _ _)
  have b0_1 : W0.heap[w.heap.size + 1]? = some (.cells #[.int .u64 (hi v), .int .u64 (lo v)] 29 (0, 0)) := by
    rw [hW0]
    rw [show w.heap.size + 1 = (w.alloc (.cells #[.bool m.pres, .int .u64 (hi m.val), .int .u64 (lo m.val), .int .u64 (hi m.mask), .int .u64 (lo m.mask), .int .i64 m.pre, .int .u64 (hi m.high), .int .u64 (lo m.high)] 75)).heap.size by simp]
    exact heap_alloc_new _ _
  have HB0 := Lib.hid hB0
  have HW0 := Lib.hid hW0
  have BB0 := Lib.hid b0_0
  have BB1 := Lib.hid b0_1
  have hG := eqG_val
  clear hB0 hW0 b0_0 b0_1
  by_cases h1 : kd = 1
  · subst h1
    have hE := cov1 m b v
    cases hp : m.pres
    · obtain rfl : r = true := hr.2 (hE.2 fun h => by rw [hp] at h; cases h)
      have HP := Lib.hid hp
      rw [← hp]
      clear hp hE hr
      have c0 : W0.cell? ⟨w.heap.size, 0, none⟩ = some (.bool false) := by rw [← HP.out]; exact blk_cell BB0.out 0 _ rfl
      have c1 : W0.cell? ⟨w.heap.size, 1, none⟩ = some (.int .u64 (hi m.val)) := blk_cell BB0.out 1 _ rfl
      have c2 : W0.cell? ⟨w.heap.size, 2, none⟩ = some (.int .u64 (lo m.val)) := blk_cell BB0.out 2 _ rfl
      have c3 : W0.cell? ⟨w.heap.size, 3, none⟩ = some (.int .u64 (hi m.mask)) := blk_cell BB0.out 3 _ rfl
      have c4 : W0.cell? ⟨w.heap.size, 4, none⟩ = some (.int .u64 (lo m.mask)) := blk_cell BB0.out 4 _ rfl
      have c5 : W0.cell? ⟨w.heap.size, 5, none⟩ = some (.int .i64 m.pre) := blk_cell BB0.out 5 _ rfl
      have c6 : W0.cell? ⟨w.heap.size, 6, none⟩ = some (.int .u64 (hi m.high)) := blk_cell BB0.out 6 _ rfl
      have c7 : W0.cell? ⟨w.heap.size, 7, none⟩ = some (.int .u64 (lo m.high)) := blk_cell BB0.out 7 _ rfl
      have v0 : W0.cell? ⟨w.heap.size + 1, 0, none⟩ = some (.int .u64 (hi v)) := blk_cell BB1.out 0 _ rfl
      have v1 : W0.cell? ⟨w.heap.size + 1, 1, none⟩ = some (.int .u64 (lo v)) := blk_cell BB1.out 1 _ rfl
      go_enter Try.func39, Try.ntmps39
      go_upto_region 1 with fail
      rw [← HW0.out]
      go_wp2_with fail
      go_ret
      exact ⟨rfl, HB0.out⟩
    · have HR := Lib.hid (hr.trans (hE.trans ⟨fun h => h hp, fun h _ => h⟩))
      have hq : ∀ W : World, (Op.equalIn 10000 29 (.agg #[.int .u64 (hi v), .int .u64 (lo v)]) (.agg #[.int .u64 (hi m.val), .int .u64 (lo m.val)])).run Try.prog W = .ok r W := fun W => eqd_val v m.val (Lib.hid HV.out) (Lib.hid HM.out.1) r HR.out W
      have HP := Lib.hid hp
      rw [← hp]
      clear hp hE hr
      have c0 : W0.cell? ⟨w.heap.size, 0, none⟩ = some (.bool true) := by rw [← HP.out]; exact blk_cell BB0.out 0 _ rfl
      have c1 : W0.cell? ⟨w.heap.size, 1, none⟩ = some (.int .u64 (hi m.val)) := blk_cell BB0.out 1 _ rfl
      have c2 : W0.cell? ⟨w.heap.size, 2, none⟩ = some (.int .u64 (lo m.val)) := blk_cell BB0.out 2 _ rfl
      have c3 : W0.cell? ⟨w.heap.size, 3, none⟩ = some (.int .u64 (hi m.mask)) := blk_cell BB0.out 3 _ rfl
      have c4 : W0.cell? ⟨w.heap.size, 4, none⟩ = some (.int .u64 (lo m.mask)) := blk_cell BB0.out 4 _ rfl
      have c5 : W0.cell? ⟨w.heap.size, 5, none⟩ = some (.int .i64 m.pre) := blk_cell BB0.out 5 _ rfl
      have c6 : W0.cell? ⟨w.heap.size, 6, none⟩ = some (.int .u64 (hi m.high)) := blk_cell BB0.out 6 _ rfl
      have c7 : W0.cell? ⟨w.heap.size, 7, none⟩ = some (.int .u64 (lo m.high)) := blk_cell BB0.out 7 _ rfl
      have v0 : W0.cell? ⟨w.heap.size + 1, 0, none⟩ = some (.int .u64 (hi v)) := blk_cell BB1.out 0 _ rfl
      have v1 : W0.cell? ⟨w.heap.size + 1, 1, none⟩ = some (.int .u64 (lo v)) := blk_cell BB1.out 1 _ rfl
      go_enter Try.func39, Try.ntmps39
      go_upto_region 1 with fail
      rw [← HW0.out]
      go_wp2_with fail
      go_ret
      exact ⟨by first | rfl | simp, HB0.out⟩
  by_cases h2 : kd = 2
  · subst h2
    obtain ⟨L, hL⟩ : ∃ L, L = lead b m.pre := ⟨_, rfl⟩
    have hE := cov2 m b v
    rw [← hL] at hE
    have KL : Hid (∀ W, Calls Try.prog 52 #[.int .i64 b, .int .i64 m.pre] W (RetV L W)) := Lib.hid fun W => by rw [hL]; exact leading_any b m.pre W
    clear hL
    cases hp : m.pres
    · obtain rfl : r = true := hr.2 (hE.2 fun h => by rw [hp] at h; cases h)
      have HP := Lib.hid hp
      rw [← hp]
      clear hp hE hr
      have c0 : W0.cell? ⟨w.heap.size, 0, none⟩ = some (.bool false) := by rw [← HP.out]; exact blk_cell BB0.out 0 _ rfl
      have c1 : W0.cell? ⟨w.heap.size, 1, none⟩ = some (.int .u64 (hi m.val)) := blk_cell BB0.out 1 _ rfl
      have c2 : W0.cell? ⟨w.heap.size, 2, none⟩ = some (.int .u64 (lo m.val)) := blk_cell BB0.out 2 _ rfl
      have c3 : W0.cell? ⟨w.heap.size, 3, none⟩ = some (.int .u64 (hi m.mask)) := blk_cell BB0.out 3 _ rfl
      have c4 : W0.cell? ⟨w.heap.size, 4, none⟩ = some (.int .u64 (lo m.mask)) := blk_cell BB0.out 4 _ rfl
      have c5 : W0.cell? ⟨w.heap.size, 5, none⟩ = some (.int .i64 m.pre) := blk_cell BB0.out 5 _ rfl
      have c6 : W0.cell? ⟨w.heap.size, 6, none⟩ = some (.int .u64 (hi m.high)) := blk_cell BB0.out 6 _ rfl
      have c7 : W0.cell? ⟨w.heap.size, 7, none⟩ = some (.int .u64 (lo m.high)) := blk_cell BB0.out 7 _ rfl
      have v0 : W0.cell? ⟨w.heap.size + 1, 0, none⟩ = some (.int .u64 (hi v)) := blk_cell BB1.out 0 _ rfl
      have v1 : W0.cell? ⟨w.heap.size + 1, 1, none⟩ = some (.int .u64 (lo v)) := blk_cell BB1.out 1 _ rfl
      go_enter Try.func39, Try.ntmps39
      go_upto_region 1 with fail
      rw [← HW0.out]
      go_wp2_with fail
      refine (KL.out _).mono ?_
      rintro en w1 ⟨rfl, hv1⟩
      obtain ⟨W2, hW2⟩ : ∃ W, W = w1.alloc (.cells #[.int .u64 (hi L), .int .u64 (lo L)] 29) := ⟨_, rfl⟩
      have hb2 : Below w1.heap.size w1 W2 := by rw [hW2]; exact (Below.refl _ _).alloc (Nat.le_refl _) _
      have hz1 := hv1.size
      have hz2 : W2.heap.size = w1.heap.size + 1 := by rw [hW2]; simp
      have B22 : Hid (W2.heap[w1.heap.size]? = some (.cells #[.int .u64 (hi L), .int .u64 (lo L)] 29 (0, 0))) := Lib.hid (by rw [hW2]; exact heap_alloc_new _ _)
      have hb12 := hv1.trans (hb2.mono hv1.size)
      have B20 := Lib.hid ((hb12.block w.heap.size (by omega)).trans BB0.out)
      have B21 := Lib.hid ((hb12.block (w.heap.size + 1) (by omega)).trans BB1.out)
      have HB2 := Lib.hid (HB0.out.trans (hb12.mono HB0.out.size))
      have HW2 := Lib.hid hW2
      clear hW2 hb2 hv1 hb12
      clear c0 c1 c2 c3 c4 c5 c6 c7 v0 v1
      have c0 : W2.cell? ⟨w.heap.size, 0, none⟩ = some (.bool false) := by rw [← HP.out]; exact blk_cell B20.out 0 _ rfl
      have c1 : W2.cell? ⟨w.heap.size, 1, none⟩ = some (.int .u64 (hi m.val)) := blk_cell B20.out 1 _ rfl
      have c2 : W2.cell? ⟨w.heap.size, 2, none⟩ = some (.int .u64 (lo m.val)) := blk_cell B20.out 2 _ rfl
      have c3 : W2.cell? ⟨w.heap.size, 3, none⟩ = some (.int .u64 (hi m.mask)) := blk_cell B20.out 3 _ rfl
      have c4 : W2.cell? ⟨w.heap.size, 4, none⟩ = some (.int .u64 (lo m.mask)) := blk_cell B20.out 4 _ rfl
      have c5 : W2.cell? ⟨w.heap.size, 5, none⟩ = some (.int .i64 m.pre) := blk_cell B20.out 5 _ rfl
      have c6 : W2.cell? ⟨w.heap.size, 6, none⟩ = some (.int .u64 (hi m.high)) := blk_cell B20.out 6 _ rfl
      have c7 : W2.cell? ⟨w.heap.size, 7, none⟩ = some (.int .u64 (lo m.high)) := blk_cell B20.out 7 _ rfl
      have v0 : W2.cell? ⟨w.heap.size + 1, 0, none⟩ = some (.int .u64 (hi v)) := blk_cell B21.out 0 _ rfl
      have v1 : W2.cell? ⟨w.heap.size + 1, 1, none⟩ = some (.int .u64 (lo v)) := blk_cell B21.out 1 _ rfl
      have l0 : W2.cell? ⟨w1.heap.size, 0, none⟩ = some (.int .u64 (hi L)) := blk_cell B22.out 0 _ rfl
      have l1 : W2.cell? ⟨w1.heap.size, 1, none⟩ = some (.int .u64 (lo L)) := blk_cell B22.out 1 _ rfl
      go_upto_region 6 with fail
      rw [← HW2.out]
      go_quiet (fail)
      go_wp2_with fail
      go_ret
      exact ⟨rfl, HB2.out.trans (below_dn _ _ _)⟩
    · have HR := Lib.hid (hr.trans (hE.trans ⟨fun h => h hp, fun h _ => h⟩))
      have hq : ∀ W : World, (Op.equalIn 10000 29 (.agg #[.int .u64 (hi (v &&& L)), .int .u64 (lo (v &&& L))]) (.agg #[.int .u64 (hi (m.val &&& L)), .int .u64 (lo (m.val &&& L))])).run Try.prog W = .ok r W := fun W => eqd_val (v &&& L) (m.val &&& L) (Lib.hid (and_128 HV.out)) (Lib.hid (and_128 HM.out.1)) r HR.out W
      have HP := Lib.hid hp
      rw [← hp]
      clear hp hE hr
      have c0 : W0.cell? ⟨w.heap.size, 0, none⟩ = some (.bool true) := by rw [← HP.out]; exact blk_cell BB0.out 0 _ rfl
      have c1 : W0.cell? ⟨w.heap.size, 1, none⟩ = some (.int .u64 (hi m.val)) := blk_cell BB0.out 1 _ rfl
      have c2 : W0.cell? ⟨w.heap.size, 2, none⟩ = some (.int .u64 (lo m.val)) := blk_cell BB0.out 2 _ rfl
      have c3 : W0.cell? ⟨w.heap.size, 3, none⟩ = some (.int .u64 (hi m.mask)) := blk_cell BB0.out 3 _ rfl
      have c4 : W0.cell? ⟨w.heap.size, 4, none⟩ = some (.int .u64 (lo m.mask)) := blk_cell BB0.out 4 _ rfl
      have c5 : W0.cell? ⟨w.heap.size, 5, none⟩ = some (.int .i64 m.pre) := blk_cell BB0.out 5 _ rfl
      have c6 : W0.cell? ⟨w.heap.size, 6, none⟩ = some (.int .u64 (hi m.high)) := blk_cell BB0.out 6 _ rfl
      have c7 : W0.cell? ⟨w.heap.size, 7, none⟩ = some (.int .u64 (lo m.high)) := blk_cell BB0.out 7 _ rfl
      have v0 : W0.cell? ⟨w.heap.size + 1, 0, none⟩ = some (.int .u64 (hi v)) := blk_cell BB1.out 0 _ rfl
      have v1 : W0.cell? ⟨w.heap.size + 1, 1, none⟩ = some (.int .u64 (lo v)) := blk_cell BB1.out 1 _ rfl
      go_enter Try.func39, Try.ntmps39
      go_upto_region 1 with fail
      rw [← HW0.out]
      go_wp2_with fail
      refine (KL.out _).mono ?_
      rintro en w1 ⟨rfl, hv1⟩
      obtain ⟨W2, hW2⟩ : ∃ W, W = w1.alloc (.cells #[.int .u64 (hi L), .int .u64 (lo L)] 29) := ⟨_, rfl⟩
      have hb2 : Below w1.heap.size w1 W2 := by rw [hW2]; exact (Below.refl _ _).alloc (Nat.le_refl _) _
      have hz1 := hv1.size
      have hz2 : W2.heap.size = w1.heap.size + 1 := by rw [hW2]; simp
      have B22 : Hid (W2.heap[w1.heap.size]? = some (.cells #[.int .u64 (hi L), .int .u64 (lo L)] 29 (0, 0))) := Lib.hid (by rw [hW2]; exact heap_alloc_new _ _)
      have hb12 := hv1.trans (hb2.mono hv1.size)
      have B20 := Lib.hid ((hb12.block w.heap.size (by omega)).trans BB0.out)
      have B21 := Lib.hid ((hb12.block (w.heap.size + 1) (by omega)).trans BB1.out)
      have HB2 := Lib.hid (HB0.out.trans (hb12.mono HB0.out.size))
      have HW2 := Lib.hid hW2
      clear hW2 hb2 hv1 hb12
      clear c0 c1 c2 c3 c4 c5 c6 c7 v0 v1
      have c0 : W2.cell? ⟨w.heap.size, 0, none⟩ = some (.bool true) := by rw [← HP.out]; exact blk_cell B20.out 0 _ rfl
      have c1 : W2.cell? ⟨w.heap.size, 1, none⟩ = some (.int .u64 (hi m.val)) := blk_cell B20.out 1 _ rfl
      have c2 : W2.cell? ⟨w.heap.size, 2, none⟩ = some (.int .u64 (lo m.val)) := blk_cell B20.out 2 _ rfl
      have c3 : W2.cell? ⟨w.heap.size, 3, none⟩ = some (.int .u64 (hi m.mask)) := blk_cell B20.out 3 _ rfl
      have c4 : W2.cell? ⟨w.heap.size, 4, none⟩ = some (.int .u64 (lo m.mask)) := blk_cell B20.out 4 _ rfl
      have c5 : W2.cell? ⟨w.heap.size, 5, none⟩ = some (.int .i64 m.pre) := blk_cell B20.out 5 _ rfl
      have c6 : W2.cell? ⟨w.heap.size, 6, none⟩ = some (.int .u64 (hi m.high)) := blk_cell B20.out 6 _ rfl
      have c7 : W2.cell? ⟨w.heap.size, 7, none⟩ = some (.int .u64 (lo m.high)) := blk_cell B20.out 7 _ rfl
      have v0 : W2.cell? ⟨w.heap.size + 1, 0, none⟩ = some (.int .u64 (hi v)) := blk_cell B21.out 0 _ rfl
      have v1 : W2.cell? ⟨w.heap.size + 1, 1, none⟩ = some (.int .u64 (lo v)) := blk_cell B21.out 1 _ rfl
      have l0 : W2.cell? ⟨w1.heap.size, 0, none⟩ = some (.int .u64 (hi L)) := blk_cell B22.out 0 _ rfl
      have l1 : W2.cell? ⟨w1.heap.size, 1, none⟩ = some (.int .u64 (lo L)) := blk_cell B22.out 1 _ rfl
      have HKS : Hid (∀ w', Below W2.heap.size W2 w' → Below W2.heap.size W2 w' ∧ w'.cell? ⟨w.heap.size, 0, none⟩ = some (.bool true) ∧ w'.cell? ⟨w.heap.size, 1, none⟩ = some (.int .u64 (hi m.val)) ∧ w'.cell? ⟨w.heap.size, 2, none⟩ = some (.int .u64 (lo m.val)) ∧ w'.cell? ⟨w.heap.size, 3, none⟩ = some (.int .u64 (hi m.mask)) ∧ w'.cell? ⟨w.heap.size, 4, none⟩ = some (.int .u64 (lo m.mask)) ∧ w'.cell? ⟨w.heap.size, 5, none⟩ = some (.int .i64 m.pre) ∧ w'.cell? ⟨w.heap.size, 6, none⟩ = some (.int .u64 (hi m.high)) ∧ w'.cell? ⟨w.heap.size, 7, none⟩ = some (.int .u64 (lo m.high)) ∧ w'.cell? ⟨w.heap.size + 1, 0, none⟩ = some (.int .u64 (hi v)) ∧ w'.cell? ⟨w.heap.size + 1, 1, none⟩ = some (.int .u64 (lo v)) ∧ w'.cell? ⟨w1.heap.size, 0, none⟩ = some (.int .u64 (hi L)) ∧ w'.cell? ⟨w1.heap.size, 1, none⟩ = some (.int .u64 (lo L))) := Lib.hid fun w' hb => by
        have q0 := (hb.block (w.heap.size) (by omega)).trans B20.out
        have q1 := (hb.block (w.heap.size + 1) (by omega)).trans B21.out
        have q2 := (hb.block (w1.heap.size) (by omega)).trans B22.out
        exact ⟨hb, (by rw [← HP.out]; exact blk_cell q0 0 _ rfl), blk_cell q0 1 _ rfl, blk_cell q0 2 _ rfl, blk_cell q0 3 _ rfl, blk_cell q0 4 _ rfl, blk_cell q0 5 _ rfl, blk_cell q0 6 _ rfl, blk_cell q0 7 _ rfl, blk_cell q1 0 _ rfl, blk_cell q1 1 _ rfl, blk_cell q2 0 _ rfl, blk_cell q2 1 _ rfl⟩
      go_upto_region 6 with fail
      rw [← HW2.out]
      go_region_held3 (fun w' => Below W2.heap.size W2 w' ∧ w'.cell? ⟨w.heap.size, 0, none⟩ = some (.bool true) ∧ w'.cell? ⟨w.heap.size, 1, none⟩ = some (.int .u64 (hi m.val)) ∧ w'.cell? ⟨w.heap.size, 2, none⟩ = some (.int .u64 (lo m.val)) ∧ w'.cell? ⟨w.heap.size, 3, none⟩ = some (.int .u64 (hi m.mask)) ∧ w'.cell? ⟨w.heap.size, 4, none⟩ = some (.int .u64 (lo m.mask)) ∧ w'.cell? ⟨w.heap.size, 5, none⟩ = some (.int .i64 m.pre) ∧ w'.cell? ⟨w.heap.size, 6, none⟩ = some (.int .u64 (hi m.high)) ∧ w'.cell? ⟨w.heap.size, 7, none⟩ = some (.int .u64 (lo m.high)) ∧ w'.cell? ⟨w.heap.size + 1, 0, none⟩ = some (.int .u64 (hi v)) ∧ w'.cell? ⟨w.heap.size + 1, 1, none⟩ = some (.int .u64 (lo v)) ∧ w'.cell? ⟨w1.heap.size, 0, none⟩ = some (.int .u64 (hi L)) ∧ w'.cell? ⟨w1.heap.size, 1, none⟩ = some (.int .u64 (lo L)))
        (first
          | exact HKS.out _ (Below.drew (Below.refl _ _))
          | exact HKS.out _ (below_call (And.left (by assumption)) (by assumption))
          | exact HKS.out _ (below_alloc (And.left (by assumption)) _)
          | assumption)
        (first
          | (go_at_call 53; (with_reducible refine (and_any _ _ _).mono ?_); rintro en v1 ⟨rfl, hv1⟩))
      all_goals go_wp2
      all_goals go_ret
      all_goals exact ⟨by first | rfl | simp, HB2.out.trans ((And.left (by assumption : Below W2.heap.size W2 _ ∧ _)).mono HB2.out.size)⟩
  by_cases h3 : kd = 3
  · subst h3
    have hE := cov3 m b v
    cases hp : m.pres
    · obtain rfl : r = true := hr.2 (hE.2 fun h => by rw [hp] at h; cases h)
      have HP := Lib.hid hp
      rw [← hp]
      clear hp hE hr
      have c0 : W0.cell? ⟨w.heap.size, 0, none⟩ = some (.bool false) := by rw [← HP.out]; exact blk_cell BB0.out 0 _ rfl
      have c1 : W0.cell? ⟨w.heap.size, 1, none⟩ = some (.int .u64 (hi m.val)) := blk_cell BB0.out 1 _ rfl
      have c2 : W0.cell? ⟨w.heap.size, 2, none⟩ = some (.int .u64 (lo m.val)) := blk_cell BB0.out 2 _ rfl
      have c3 : W0.cell? ⟨w.heap.size, 3, none⟩ = some (.int .u64 (hi m.mask)) := blk_cell BB0.out 3 _ rfl
      have c4 : W0.cell? ⟨w.heap.size, 4, none⟩ = some (.int .u64 (lo m.mask)) := blk_cell BB0.out 4 _ rfl
      have c5 : W0.cell? ⟨w.heap.size, 5, none⟩ = some (.int .i64 m.pre) := blk_cell BB0.out 5 _ rfl
      have c6 : W0.cell? ⟨w.heap.size, 6, none⟩ = some (.int .u64 (hi m.high)) := blk_cell BB0.out 6 _ rfl
      have c7 : W0.cell? ⟨w.heap.size, 7, none⟩ = some (.int .u64 (lo m.high)) := blk_cell BB0.out 7 _ rfl
      have v0 : W0.cell? ⟨w.heap.size + 1, 0, none⟩ = some (.int .u64 (hi v)) := blk_cell BB1.out 0 _ rfl
      have v1 : W0.cell? ⟨w.heap.size + 1, 1, none⟩ = some (.int .u64 (lo v)) := blk_cell BB1.out 1 _ rfl
      go_enter Try.func39, Try.ntmps39
      go_upto_region 1 with fail
      rw [← HW0.out]
      go_wp2_with fail
      go_quiet (fail)
      go_wp2_with fail
      go_ret
      exact ⟨rfl, HB0.out.trans (below_dn _ _ _)⟩
    · have HR := Lib.hid (hr.trans (hE.trans ⟨fun h => h hp, fun h _ => h⟩))
      have hq : ∀ W : World, (Op.equalIn 10000 29 (.agg #[.int .u64 (hi (v &&& m.mask)), .int .u64 (lo (v &&& m.mask))]) (.agg #[.int .u64 (hi m.val), .int .u64 (lo m.val)])).run Try.prog W = .ok r W := fun W => eqd_val (v &&& m.mask) m.val (Lib.hid (and_128 HV.out)) (Lib.hid HM.out.1) r HR.out W
      have HP := Lib.hid hp
      rw [← hp]
      clear hp hE hr
      have c0 : W0.cell? ⟨w.heap.size, 0, none⟩ = some (.bool true) := by rw [← HP.out]; exact blk_cell BB0.out 0 _ rfl
      have c1 : W0.cell? ⟨w.heap.size, 1, none⟩ = some (.int .u64 (hi m.val)) := blk_cell BB0.out 1 _ rfl
      have c2 : W0.cell? ⟨w.heap.size, 2, none⟩ = some (.int .u64 (lo m.val)) := blk_cell BB0.out 2 _ rfl
      have c3 : W0.cell? ⟨w.heap.size, 3, none⟩ = some (.int .u64 (hi m.mask)) := blk_cell BB0.out 3 _ rfl
      have c4 : W0.cell? ⟨w.heap.size, 4, none⟩ = some (.int .u64 (lo m.mask)) := blk_cell BB0.out 4 _ rfl
      have c5 : W0.cell? ⟨w.heap.size, 5, none⟩ = some (.int .i64 m.pre) := blk_cell BB0.out 5 _ rfl
      have c6 : W0.cell? ⟨w.heap.size, 6, none⟩ = some (.int .u64 (hi m.high)) := blk_cell BB0.out 6 _ rfl
      have c7 : W0.cell? ⟨w.heap.size, 7, none⟩ = some (.int .u64 (lo m.high)) := blk_cell BB0.out 7 _ rfl
      have v0 : W0.cell? ⟨w.heap.size + 1, 0, none⟩ = some (.int .u64 (hi v)) := blk_cell BB1.out 0 _ rfl
      have v1 : W0.cell? ⟨w.heap.size + 1, 1, none⟩ = some (.int .u64 (lo v)) := blk_cell BB1.out 1 _ rfl
      have HKS : Hid (∀ w', Below W0.heap.size W0 w' → Below W0.heap.size W0 w' ∧ w'.cell? ⟨w.heap.size, 0, none⟩ = some (.bool true) ∧ w'.cell? ⟨w.heap.size, 1, none⟩ = some (.int .u64 (hi m.val)) ∧ w'.cell? ⟨w.heap.size, 2, none⟩ = some (.int .u64 (lo m.val)) ∧ w'.cell? ⟨w.heap.size, 3, none⟩ = some (.int .u64 (hi m.mask)) ∧ w'.cell? ⟨w.heap.size, 4, none⟩ = some (.int .u64 (lo m.mask)) ∧ w'.cell? ⟨w.heap.size, 5, none⟩ = some (.int .i64 m.pre) ∧ w'.cell? ⟨w.heap.size, 6, none⟩ = some (.int .u64 (hi m.high)) ∧ w'.cell? ⟨w.heap.size, 7, none⟩ = some (.int .u64 (lo m.high)) ∧ w'.cell? ⟨w.heap.size + 1, 0, none⟩ = some (.int .u64 (hi v)) ∧ w'.cell? ⟨w.heap.size + 1, 1, none⟩ = some (.int .u64 (lo v))) := Lib.hid fun w' hb => by
        have q0 := (hb.block (w.heap.size) (by omega)).trans BB0.out
        have q1 := (hb.block (w.heap.size + 1) (by omega)).trans BB1.out
        exact ⟨hb, (by rw [← HP.out]; exact blk_cell q0 0 _ rfl), blk_cell q0 1 _ rfl, blk_cell q0 2 _ rfl, blk_cell q0 3 _ rfl, blk_cell q0 4 _ rfl, blk_cell q0 5 _ rfl, blk_cell q0 6 _ rfl, blk_cell q0 7 _ rfl, blk_cell q1 0 _ rfl, blk_cell q1 1 _ rfl⟩
      go_enter Try.func39, Try.ntmps39
      go_upto_region 1 with fail
      rw [← HW0.out]
      go_wp2_with fail
      go_region_held3 (fun w' => Below W0.heap.size W0 w' ∧ w'.cell? ⟨w.heap.size, 0, none⟩ = some (.bool true) ∧ w'.cell? ⟨w.heap.size, 1, none⟩ = some (.int .u64 (hi m.val)) ∧ w'.cell? ⟨w.heap.size, 2, none⟩ = some (.int .u64 (lo m.val)) ∧ w'.cell? ⟨w.heap.size, 3, none⟩ = some (.int .u64 (hi m.mask)) ∧ w'.cell? ⟨w.heap.size, 4, none⟩ = some (.int .u64 (lo m.mask)) ∧ w'.cell? ⟨w.heap.size, 5, none⟩ = some (.int .i64 m.pre) ∧ w'.cell? ⟨w.heap.size, 6, none⟩ = some (.int .u64 (hi m.high)) ∧ w'.cell? ⟨w.heap.size, 7, none⟩ = some (.int .u64 (lo m.high)) ∧ w'.cell? ⟨w.heap.size + 1, 0, none⟩ = some (.int .u64 (hi v)) ∧ w'.cell? ⟨w.heap.size + 1, 1, none⟩ = some (.int .u64 (lo v)))
        (first
          | exact HKS.out _ (Below.drew (Below.refl _ _))
          | exact HKS.out _ (below_call (And.left (by assumption)) (by assumption))
          | exact HKS.out _ (below_alloc (And.left (by assumption)) _)
          | assumption)
        (first
          | (go_at_call 53; (with_reducible refine (and_any _ _ _).mono ?_); rintro en v1 ⟨rfl, hv1⟩))
      all_goals go_wp2
      all_goals go_ret
      all_goals exact ⟨by first | rfl | simp, HB0.out.trans ((And.left (by assumption : Below W0.heap.size W0 _ ∧ _)).mono HB0.out.size)⟩
  by_cases h4 : kd = 4
  · subst h4
    have hE := cov4 m b v
    cases hp : m.pres
    · obtain rfl : r = true := hr.2 (hE.2 fun h => by rw [hp] at h; cases h)
      have HP := Lib.hid hp
      rw [← hp]
      clear hp hE hr
      have c0 : W0.cell? ⟨w.heap.size, 0, none⟩ = some (.bool false) := by rw [← HP.out]; exact blk_cell BB0.out 0 _ rfl
      have c1 : W0.cell? ⟨w.heap.size, 1, none⟩ = some (.int .u64 (hi m.val)) := blk_cell BB0.out 1 _ rfl
      have c2 : W0.cell? ⟨w.heap.size, 2, none⟩ = some (.int .u64 (lo m.val)) := blk_cell BB0.out 2 _ rfl
      have c3 : W0.cell? ⟨w.heap.size, 3, none⟩ = some (.int .u64 (hi m.mask)) := blk_cell BB0.out 3 _ rfl
      have c4 : W0.cell? ⟨w.heap.size, 4, none⟩ = some (.int .u64 (lo m.mask)) := blk_cell BB0.out 4 _ rfl
      have c5 : W0.cell? ⟨w.heap.size, 5, none⟩ = some (.int .i64 m.pre) := blk_cell BB0.out 5 _ rfl
      have c6 : W0.cell? ⟨w.heap.size, 6, none⟩ = some (.int .u64 (hi m.high)) := blk_cell BB0.out 6 _ rfl
      have c7 : W0.cell? ⟨w.heap.size, 7, none⟩ = some (.int .u64 (lo m.high)) := blk_cell BB0.out 7 _ rfl
      have v0 : W0.cell? ⟨w.heap.size + 1, 0, none⟩ = some (.int .u64 (hi v)) := blk_cell BB1.out 0 _ rfl
      have v1 : W0.cell? ⟨w.heap.size + 1, 1, none⟩ = some (.int .u64 (lo v)) := blk_cell BB1.out 1 _ rfl
      go_enter Try.func39, Try.ntmps39
      go_upto_region 1 with fail
      rw [← HW0.out]
      go_wp2_with fail
      go_ret
      exact ⟨rfl, HB0.out⟩
    · have HR := Lib.hid (hr.trans (hE.trans ⟨fun h => h hp, fun h _ => h⟩))
      have HP := Lib.hid hp
      rw [← hp]
      have HD := Lib.hid (dec_of HR.out)
      obtain ⟨C1, hC1⟩ : ∃ C, C = cmp m.val v := ⟨_, rfl⟩
      obtain ⟨C2, hC2⟩ : ∃ C, C = cmp v m.high := ⟨_, rfl⟩
      have h1 : C1 ≤ 0 ↔ m.val ≤ v := by rw [hC1]; exact cmp_le
      have h2 : C2 ≤ 0 ↔ v ≤ m.high := by rw [hC2]; exact cmp_le
      have K1 : Hid (∀ W, Calls Try.prog 32 #[.agg #[.int .u64 (hi m.val), .int .u64 (lo m.val)], .agg #[.int .u64 (hi v), .int .u64 (lo v)]] W (RetX (.int .i64 C1) W)) := Lib.hid fun W => by rw [hC1]; exact compare_any m.val v HM.out.1 HV.out W
      have K2 : Hid (∀ W, Calls Try.prog 32 #[.agg #[.int .u64 (hi v), .int .u64 (lo v)], .agg #[.int .u64 (hi m.high), .int .u64 (lo m.high)]] W (RetX (.int .i64 C2) W)) := Lib.hid fun W => by rw [hC2]; exact compare_any v m.high HV.out HM.out.2.2.1 W
      clear hp hE hr hC1 hC2
      have c0 : W0.cell? ⟨w.heap.size, 0, none⟩ = some (.bool true) := by rw [← HP.out]; exact blk_cell BB0.out 0 _ rfl
      have c1 : W0.cell? ⟨w.heap.size, 1, none⟩ = some (.int .u64 (hi m.val)) := blk_cell BB0.out 1 _ rfl
      have c2 : W0.cell? ⟨w.heap.size, 2, none⟩ = some (.int .u64 (lo m.val)) := blk_cell BB0.out 2 _ rfl
      have c3 : W0.cell? ⟨w.heap.size, 3, none⟩ = some (.int .u64 (hi m.mask)) := blk_cell BB0.out 3 _ rfl
      have c4 : W0.cell? ⟨w.heap.size, 4, none⟩ = some (.int .u64 (lo m.mask)) := blk_cell BB0.out 4 _ rfl
      have c5 : W0.cell? ⟨w.heap.size, 5, none⟩ = some (.int .i64 m.pre) := blk_cell BB0.out 5 _ rfl
      have c6 : W0.cell? ⟨w.heap.size, 6, none⟩ = some (.int .u64 (hi m.high)) := blk_cell BB0.out 6 _ rfl
      have c7 : W0.cell? ⟨w.heap.size, 7, none⟩ = some (.int .u64 (lo m.high)) := blk_cell BB0.out 7 _ rfl
      have v0 : W0.cell? ⟨w.heap.size + 1, 0, none⟩ = some (.int .u64 (hi v)) := blk_cell BB1.out 0 _ rfl
      have v1 : W0.cell? ⟨w.heap.size + 1, 1, none⟩ = some (.int .u64 (lo v)) := blk_cell BB1.out 1 _ rfl
      by_cases g1 : C1 ≤ 0
      · have hrr : r = decide (C2 ≤ 0) := bool_eq HR.out decide_eq_true_iff ⟨fun h => h2.2 h.2, fun h => ⟨h1.1 g1, h2.1 h⟩⟩
        have HRR := Lib.hid hrr
        clear hrr h1 h2
        go_enter Try.func39, Try.ntmps39
        go_upto_region 1 with fail
        rw [← HW0.out]
        go_wp2_with fail
        refine (K1.out _).mono ?_
        rintro en w1 ⟨rfl, hv1⟩
        have HB1 := Lib.hid (HB0.out.trans (hv1.mono HB0.out.size))
        have hy1 := hv1.size
        have B10 := Lib.hid ((hv1.block w.heap.size (by omega)).trans BB0.out)
        have B11 := Lib.hid ((hv1.block (w.heap.size + 1) (by omega)).trans BB1.out)
        clear hv1 c0 c1 c2 c3 c4 c5 c6 c7 v0 v1
        have c0 : w1.cell? ⟨w.heap.size, 0, none⟩ = some (.bool true) := by rw [← HP.out]; exact blk_cell B10.out 0 _ rfl
        have c1 : w1.cell? ⟨w.heap.size, 1, none⟩ = some (.int .u64 (hi m.val)) := blk_cell B10.out 1 _ rfl
        have c2 : w1.cell? ⟨w.heap.size, 2, none⟩ = some (.int .u64 (lo m.val)) := blk_cell B10.out 2 _ rfl
        have c3 : w1.cell? ⟨w.heap.size, 3, none⟩ = some (.int .u64 (hi m.mask)) := blk_cell B10.out 3 _ rfl
        have c4 : w1.cell? ⟨w.heap.size, 4, none⟩ = some (.int .u64 (lo m.mask)) := blk_cell B10.out 4 _ rfl
        have c5 : w1.cell? ⟨w.heap.size, 5, none⟩ = some (.int .i64 m.pre) := blk_cell B10.out 5 _ rfl
        have c6 : w1.cell? ⟨w.heap.size, 6, none⟩ = some (.int .u64 (hi m.high)) := blk_cell B10.out 6 _ rfl
        have c7 : w1.cell? ⟨w.heap.size, 7, none⟩ = some (.int .u64 (lo m.high)) := blk_cell B10.out 7 _ rfl
        have v0 : w1.cell? ⟨w.heap.size + 1, 0, none⟩ = some (.int .u64 (hi v)) := blk_cell B11.out 0 _ rfl
        have v1 : w1.cell? ⟨w.heap.size + 1, 1, none⟩ = some (.int .u64 (lo v)) := blk_cell B11.out 1 _ rfl
        go_wp2_with fail
        refine (K2.out _).mono ?_
        rintro en w2 ⟨rfl, hv2⟩
        have HB2 := Lib.hid (HB1.out.trans (hv2.mono HB1.out.size))
        have hy2 := hv2.size
        clear hv2
        go_wp2_with fail
        go_ret
        exact ⟨by rw [HRR.out]; first | rfl | simp, HB2.out⟩
      · obtain rfl : r = false := bool_no HR.out fun h => g1 (h1.2 h.1)
        clear h1 h2
        go_enter Try.func39, Try.ntmps39
        go_upto_region 1 with fail
        rw [← HW0.out]
        go_wp2_with fail
        refine (K1.out _).mono ?_
        rintro en w1 ⟨rfl, hv1⟩
        have HB1 := Lib.hid (HB0.out.trans (hv1.mono HB0.out.size))
        have hy1 := hv1.size
        clear hv1 c0 c1 c2 c3 c4 c5 c6 c7 v0 v1
        go_wp2_with fail
        go_ret
        exact ⟨rfl, HB1.out⟩
  obtain rfl : r = false := bool_no hr (by unfold covM; rw [if_neg h1, if_neg h2, if_neg h3, if_neg h4]; exact id)
  go_enter Try.func39, Try.ntmps39
  go_upto_region 1 with fail
  rw [← HW0.out]
  go_wp2_with fail
  go_ret
  exact ⟨rfl, HB0.out⟩
end
end Go.Proofs.Ythldelnibgdnaaa
