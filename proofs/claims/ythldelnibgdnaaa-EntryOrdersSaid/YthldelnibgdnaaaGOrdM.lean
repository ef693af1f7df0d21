/- The program's order of matches. -/
import Derived.Test.YthldelnibgdnaaaGOrdF
namespace Go.Proofs.Ythldelnibgdnaaa
open Go.RowKit
theorem cmp0 (a b : Nat) : cmp a b = 0 ↔ a = b := by
  unfold cmp
  by_cases h : a = b
  · simp [h]
  · by_cases h2 : a < b <;> simp [h, h2]
theorem sgI0 (a b : Int) : sgI a b = 0 ↔ a = b := by
  unfold sgI
  by_cases h : a < b
  · simp [h]; omega
  · by_cases h2 : b < a
    · simp [h, h2]; omega
    · simp [h, h2]; omega
theorem tru0 (a b : Bool) : truI a b = 0 ↔ a = b := by cases a <;> cases b <;> simp [truI]
theorem mat_fst (x y : MatchD) : matI x y = fstNZ [truI x.pres y.pres, cmp x.val y.val, cmp x.mask y.mask, sgI x.pre y.pre, cmp x.high y.high] := by
  unfold matI
  simp only [fstNZ, tru0, cmp0, sgI0]
  by_cases h0 : x.pres = y.pres
  · by_cases h1 : x.val = y.val
    · by_cases h2 : x.mask = y.mask
      · by_cases h3 : x.pre = y.pre
        · by_cases h4 : x.high = y.high
          · simp [h0, h1, h2, h3, h4, cmp]
          · simp [h0, h1, h2, h3, h4]
        · simp [h0, h1, h2, h3]
      · simp [h0, h1, h2]
    · simp [h0, h1]
  · simp [h0]
theorem mat_self (x : MatchD) : matI x x = 0 := by rw [mat_fst]; simp [fstNZ, tru0, cmp0, sgI0]
set_option maxRecDepth 100000 in
set_option maxHeartbeats 2500000 in
theorem g_compareMatches (x y : MatchD) (hx : MatchOk x) (hy : MatchOk y) (w : World) : Calls Try.prog 30 #[.agg #[.bool x.pres, .int .u64 (hi x.val), .int .u64 (lo x.val), .int .u64 (hi x.mask), .int .u64 (lo x.mask), .int .i64 x.pre, .int .u64 (hi x.high), .int .u64 (lo x.high)], .agg #[.bool y.pres, .int .u64 (hi y.val), .int .u64 (lo y.val), .int .u64 (hi y.mask), .int .u64 (lo y.mask), .int .i64 y.pre, .int .u64 (hi y.high), .int .u64 (lo y.high)]] w (RetX (.int .i64 (matI x y)) w) := by
  obtain ⟨W0, hW0⟩ : ∃ W, W = ((w.alloc (.cells #[.bool x.pres, .int .u64 (hi x.val), .int .u64 (lo x.val), .int .u64 (hi x.mask), .int .u64 (lo x.mask), .int .i64 x.pre, .int .u64 (hi x.high), .int .u64 (lo x.high)] 75)).alloc (.cells #[.bool y.pres, .int .u64 (hi y.val), .int .u64 (lo y.val), .int .u64 (hi y.mask), .int .u64 (lo y.mask), .int .i64 y.pre, .int .u64 (hi y.high), .int .u64 (lo y.high)] 75)) := ⟨_, rfl⟩
  have hB0 : Below w.heap.size w W0 := by rw [hW0]; exact (((Below.refl w.heap.size w).alloc (by simp <;> omega) _).alloc (by simp <;> omega) _)
  have hz0 : W0.heap.size = w.heap.size + 2 := by rw [hW0]; simp
  have b0_0 : W0.heap[w.heap.size]? = some (.cells #[.bool x.pres, .int .u64 (hi x.val), .int .u64 (lo x.val), .int .u64 (hi x.mask), .int .u64 (lo x.mask), .int .i64 x.pre, .int .u64 (hi x.high), .int .u64 (lo x.high)] 75 (0, 0)) := by
    rw [hW0]
    exact (((Below.refl (w.alloc (.cells #[.bool x.pres, .int .u64 (hi x.val), .int .u64 (lo x.val), .int .u64 (hi x.mask), .int .u64 (lo x.mask), .int .i64 x.pre, .int .u64 (hi x.high), .int .u64 (lo x.high)] 75)).heap.size (w.alloc (.cells #[.bool x.pres, .int .u64 (hi x.val), .int .u64 (lo x.val), .int .u64 (hi x.mask), .int .u64 (lo x.mask), .int .i64 x.pre, .int .u64 (hi x.high), .int .u64 (lo x.high)] 75))).alloc (by simp <;> omega) _).block w.heap.size (by simp)).trans (heap_alloc_new _ _)
  have b0_1 : W0.heap[w.heap.size + 1]? = some (.cells #[.bool y.pres, .int .u64 (hi y.val), .int .u64 (lo y.val), .int .u64 (hi y.mask), .int .u64 (lo y.mask), .int .i64 y.pre, .int .u64 (hi y.high), .int .u64 (lo y.high)] 75 (0, 0)) := by
    rw [hW0]
    rw [show w.heap.size + 1 = (w.alloc (.cells #[.bool x.pres, .int .u64 (hi x.val), .int .u64 (lo x.val), .int .u64 (hi x.mask), .int .u64 (lo x.mask), .int .i64 x.pre, .int .u64 (hi x.high), .int .u64 (lo x.high)] 75)).heap.size by simp]
    exact heap_alloc_new _ _
  have HKS : Hid (∀ w', Below W0.heap.size W0 w' → Below W0.heap.size W0 w' ∧ w'.cell? ⟨w.heap.size, 0, none⟩ = some (.bool x.pres) ∧ w'.cell? ⟨w.heap.size, 1, none⟩ = some (.int .u64 (hi x.val)) ∧ w'.cell? ⟨w.heap.size, 2, none⟩ = some (.int .u64 (lo x.val)) ∧ w'.cell? ⟨w.heap.size, 3, none⟩ = some (.int .u64 (hi x.mask)) ∧ w'.cell? ⟨w.heap.size, 4, none⟩ = some (.int .u64 (lo x.mask)) ∧ w'.cell? ⟨w.heap.size, 5, none⟩ = some (.int .i64 x.pre) ∧ w'.cell? ⟨w.heap.size, 6, none⟩ = some (.int .u64 (hi x.high)) ∧ w'.cell? ⟨w.heap.size, 7, none⟩ = some (.int .u64 (lo x.high)) ∧ w'.cell? ⟨w.heap.size + 1, 0, none⟩ = some (.bool y.pres) ∧ w'.cell? ⟨w.heap.size + 1, 1, none⟩ = some (.int .u64 (hi y.val)) ∧ w'.cell? ⟨w.heap.size + 1, 2, none⟩ = some (.int .u64 (lo y.val)) ∧ w'.cell? ⟨w.heap.size + 1, 3, none⟩ = some (.int .u64 (hi y.mask)) ∧ w'.cell? ⟨w.heap.size + 1, 4, none⟩ = some (.int .u64 (lo y.mask)) ∧ w'.cell? ⟨w.heap.size + 1, 5, none⟩ = some (.int .i64 y.pre) ∧ w'.cell? ⟨w.heap.size + 1, 6, none⟩ = some (.int .u64 (hi y.high)) ∧ w'.cell? ⟨w.heap.size + 1, 7, none⟩ = some (.int .u64 (lo y.high))) := Lib.hid fun w' hb => by
    have q0 := (hb.block w.heap.size (by omega)).trans b0_0
    have q1 := (hb.block (w.heap.size + 1) (by omega)).trans b0_1
    exact ⟨hb, blk_cell q0 0 _ rfl, blk_cell q0 1 _ rfl, blk_cell q0 2 _ rfl, blk_cell q0 3 _ rfl, blk_cell q0 4 _ rfl, blk_cell q0 5 _ rfl, blk_cell q0 6 _ rfl, blk_cell q0 7 _ rfl, blk_cell q1 0 _ rfl, blk_cell q1 1 _ rfl, blk_cell q1 2 _ rfl, blk_cell q1 3 _ rfl, blk_cell q1 4 _ rfl, blk_cell q1 5 _ rfl, blk_cell q1 6 _ rfl, blk_cell q1 7 _ rfl⟩
  obtain ⟨b, hb⟩ := some_bool (x = y)
  have hq : ∀ W : World, (Op.equalIn 10000 75 (.agg #[.bool x.pres, .int .u64 (hi x.val), .int .u64 (lo x.val), .int .u64 (hi x.mask), .int .u64 (lo x.mask), .int .i64 x.pre, .int .u64 (hi x.high), .int .u64 (lo x.high)]) (.agg #[.bool y.pres, .int .u64 (hi y.val), .int .u64 (lo y.val), .int .u64 (hi y.mask), .int .u64 (lo y.mask), .int .i64 y.pre, .int .u64 (hi y.high), .int .u64 (lo y.high)])).run Try.prog W = .ok b W := fun W => eqd_match x y (Lib.hid hx.1) (Lib.hid hy.1) (Lib.hid hx.2.1) (Lib.hid hy.2.1) (Lib.hid hx.2.2.1) (Lib.hid hy.2.2.1) b hb W
  have hG : Try.prog.eqGuardType Try.prog.depth 75 = false := by kernel_rfl
  obtain ⟨a0, h0⟩ : ∃ s, s = truI x.pres y.pres := ⟨_, rfl⟩
  obtain ⟨a1, h1⟩ : ∃ s, s = cmp x.val y.val := ⟨_, rfl⟩
  obtain ⟨a2, h2⟩ : ∃ s, s = cmp x.mask y.mask := ⟨_, rfl⟩
  obtain ⟨a3, h3⟩ : ∃ s, s = sgI x.pre y.pre := ⟨_, rfl⟩
  obtain ⟨a4, h4⟩ : ∃ s, s = cmp x.high y.high := ⟨_, rfl⟩
  have C0 : Hid (∀ W, Calls Try.prog 45 #[.bool x.pres, .bool y.pres] W fun e w' => e = .returned (.int .i64 a0) ∧ w' = W) := Lib.hid fun W => by rw [h0]; exact g_truths _ _ W
  have C1 : Hid (∀ W, Calls Try.prog 32 #[.agg #[.int .u64 (hi x.val), .int .u64 (lo x.val)], .agg #[.int .u64 (hi y.val), .int .u64 (lo y.val)]] W (RetX (.int .i64 a1) W)) := Lib.hid fun W => by rw [h1]; exact compare_any _ _ hx.1 hy.1 W
  have C2 : Hid (∀ W, Calls Try.prog 32 #[.agg #[.int .u64 (hi x.mask), .int .u64 (lo x.mask)], .agg #[.int .u64 (hi y.mask), .int .u64 (lo y.mask)]] W (RetX (.int .i64 a2) W)) := Lib.hid fun W => by rw [h2]; exact compare_any _ _ hx.2.1 hy.2.1 W
  have C3 : Hid (∀ W, Calls Try.prog 28 #[.int .i64 x.pre, .int .i64 y.pre] W fun e w' => e = .returned (.int .i64 a3) ∧ w' = W) := Lib.hid fun W => by rw [h3]; exact g_cmp _ _ W
  have C4 : Hid (∀ W, Calls Try.prog 32 #[.agg #[.int .u64 (hi x.high), .int .u64 (lo x.high)], .agg #[.int .u64 (hi y.high), .int .u64 (lo y.high)]] W (RetX (.int .i64 a4) W)) := Lib.hid fun W => by rw [h4]; exact compare_any _ _ hx.2.2.1 hy.2.2.1 W
  have C5 : Hid (∀ W : World, Calls Try.prog 27 #[.slice (some ⟨W.heap.size, 0, none⟩) 5 5] (W.alloc (.cells #[.int .i64 a0, .int .i64 a1, .int .i64 a2, .int .i64 a3, .int .i64 a4] 3)) fun en w' => en = .returned (.int .i64 (fstNZ [a0, a1, a2, a3, a4])) ∧ Below (W.alloc (.cells #[.int .i64 a0, .int .i64 a1, .int .i64 a2, .int .i64 a3, .int .i64 a4] 3)).heap.size (W.alloc (.cells #[.int .i64 a0, .int .i64 a1, .int .i64 a2, .int .i64 a3, .int .i64 a4] 3)) w') := Lib.hid fun W => g_firstOf _ _ _ _ [a0, a1, a2, a3, a4] rfl (Nat.le_refl _) (by decide) (fun j v hj => by
      rw [World.cell?_alloc_new]
      match j, hj with
      | 0, hj => simpa using hj
      | 1, hj => simpa using hj
      | 2, hj => simpa using hj
      | 3, hj => simpa using hj
      | 4, hj => simpa using hj)
  have HF : Hid (matI x y = fstNZ [a0, a1, a2, a3, a4]) := Lib.hid (by rw [mat_fst, h0, h1, h2, h3, h4])
  have HS : Hid (b = true → matI x y = 0) := Lib.hid (fun h => by rw [hb.1 h]; exact mat_self y)
  have x0 := blk_cell b0_0 0 _ rfl
  have y0 := blk_cell b0_1 0 _ rfl
  have x1 := blk_cell b0_0 1 _ rfl
  have y1 := blk_cell b0_1 1 _ rfl
  have x2 := blk_cell b0_0 2 _ rfl
  have y2 := blk_cell b0_1 2 _ rfl
  have x3 := blk_cell b0_0 3 _ rfl
  have y3 := blk_cell b0_1 3 _ rfl
  have x4 := blk_cell b0_0 4 _ rfl
  have y4 := blk_cell b0_1 4 _ rfl
  have x5 := blk_cell b0_0 5 _ rfl
  have y5 := blk_cell b0_1 5 _ rfl
  have x6 := blk_cell b0_0 6 _ rfl
  have y6 := blk_cell b0_1 6 _ rfl
  have x7 := blk_cell b0_0 7 _ rfl
  have y7 := blk_cell b0_1 7 _ rfl
  have HB0 := Lib.hid hB0
  have HW0 := Lib.hid hW0
  clear hB0 hW0 b0_0 b0_1 hb h0 h1 h2 h3 h4 hx hy
  go_enter Try.func30, Try.ntmps30
  go_upto_region 1 with fail
  rw [← HW0.out]
  cases b with
  | true =>
    go_wp2_with fail
    go_ret
    exact ⟨by rw [HS.out (by trivial)]; rfl, HB0.out⟩
  | false =>
    go_wp2_with fail
    clear hq x0 y0 x1 y1 x2 y2 x3 y3 x4 y4 x5 y5 x6 y6 x7 y7
    go_region_held3 (fun w' => Below W0.heap.size W0 w' ∧ w'.cell? ⟨w.heap.size, 0, none⟩ = some (.bool x.pres) ∧ w'.cell? ⟨w.heap.size, 1, none⟩ = some (.int .u64 (hi x.val)) ∧ w'.cell? ⟨w.heap.size, 2, none⟩ = some (.int .u64 (lo x.val)) ∧ w'.cell? ⟨w.heap.size, 3, none⟩ = some (.int .u64 (hi x.mask)) ∧ w'.cell? ⟨w.heap.size, 4, none⟩ = some (.int .u64 (lo x.mask)) ∧ w'.cell? ⟨w.heap.size, 5, none⟩ = some (.int .i64 x.pre) ∧ w'.cell? ⟨w.heap.size, 6, none⟩ = some (.int .u64 (hi x.high)) ∧ w'.cell? ⟨w.heap.size, 7, none⟩ = some (.int .u64 (lo x.high)) ∧ w'.cell? ⟨w.heap.size + 1, 0, none⟩ = some (.bool y.pres) ∧ w'.cell? ⟨w.heap.size + 1, 1, none⟩ = some (.int .u64 (hi y.val)) ∧ w'.cell? ⟨w.heap.size + 1, 2, none⟩ = some (.int .u64 (lo y.val)) ∧ w'.cell? ⟨w.heap.size + 1, 3, none⟩ = some (.int .u64 (hi y.mask)) ∧ w'.cell? ⟨w.heap.size + 1, 4, none⟩ = some (.int .u64 (lo y.mask)) ∧ w'.cell? ⟨w.heap.size + 1, 5, none⟩ = some (.int .i64 y.pre) ∧ w'.cell? ⟨w.heap.size + 1, 6, none⟩ = some (.int .u64 (hi y.high)) ∧ w'.cell? ⟨w.heap.size + 1, 7, none⟩ = some (.int .u64 (lo y.high)))
      (first
        | exact HKS.out _ (Below.drew (Below.refl _ _))
        | exact HKS.out _ (below_call (And.left (by assumption)) (by assumption))
        | exact HKS.out _ (below_alloc (And.left (by assumption)) _)
        | assumption)
      (first
        | (go_at_call 45; (with_reducible refine (C0.out _).mono ?_); rintro en u0 ⟨rfl, rfl⟩)
        | (go_at_call 32; (with_reducible refine (C1.out _).mono ?_); rintro en u1 ⟨rfl, hu1⟩)
        | (go_at_call 32; (with_reducible refine (C2.out _).mono ?_); rintro en u2 ⟨rfl, hu2⟩)
        | (go_at_call 28; (with_reducible refine (C3.out _).mono ?_); rintro en u3 ⟨rfl, rfl⟩)
        | (go_at_call 32; (with_reducible refine (C4.out _).mono ?_); rintro en u4 ⟨rfl, hu4⟩)
        | (go_at_call 27; (with_reducible refine (C5.out _).mono ?_); rintro en u5 ⟨rfl, hu5⟩))
    go_wp2_with fail
    go_ret
    exact ⟨by rw [HF.out]; rfl, HB0.out.trans ((And.left (by assumption : Below W0.heap.size W0 _ ∧ _)).mono HB0.out.size)⟩
end Go.Proofs.Ythldelnibgdnaaa
