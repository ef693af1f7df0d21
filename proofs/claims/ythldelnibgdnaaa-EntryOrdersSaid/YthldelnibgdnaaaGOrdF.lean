/- The orders of numbers, truths and matches. -/
import Derived.Test.YthldelnibgdnaaaGWin
import Derived.Test.YthldelnibgdnaaaGCov
import Derived.Test.YthldelnibgdnaaaCmp
namespace Go.Proofs.Ythldelnibgdnaaa
open Go.RowKit
/-- false before true -/
def truI (a b : Bool) : Int := if a = b then 0 else if b = true then -1 else 1
/-- the order of matches -/
def matI (x y : MatchD) : Int := if x.pres ≠ y.pres then truI x.pres y.pres else if x.val ≠ y.val then cmp x.val y.val else if x.mask ≠ y.mask then cmp x.mask y.mask else if x.pre ≠ y.pre then sgI x.pre y.pre else cmp x.high y.high
set_option maxRecDepth 100000 in
set_option maxHeartbeats 4000000 in
theorem r_number (a b : Int) (w : World) : Calls Try.prog 33 #[.int .i64 a, .int .i64 b] w fun e w' => e = .returned (.int .i64 (sgI a b)) ∧ w' = w := by
  by_cases h1 : a < b
  · have e : sgI a b = -1 := by unfold sgI; simp [h1]
    rw [e]
    go_enter Try.func33, Try.ntmps33
    go_wp2_with fail
    go_ret
    exact ⟨rfl, rfl⟩
  · by_cases h2 : a > b
    · have e : sgI a b = 1 := by unfold sgI; simp [h1]; omega
      rw [e]
      go_enter Try.func33, Try.ntmps33
      go_wp2_with fail
      go_ret
      exact ⟨rfl, rfl⟩
    · have e : sgI a b = 0 := by unfold sgI; simp [h1]; omega
      rw [e]
      go_enter Try.func33, Try.ntmps33
      go_wp2_with fail
      go_ret
      exact ⟨rfl, rfl⟩
set_option maxRecDepth 100000 in
set_option maxHeartbeats 4000000 in
theorem g_truths (a b : Bool) (w : World) : Calls Try.prog 45 #[.bool a, .bool b] w fun e w' => e = .returned (.int .i64 (truI a b)) ∧ w' = w := by
  cases a <;> cases b
  all_goals
    go_enter Try.func45, Try.ntmps45
    go_wp2_with fail
    go_ret
    exact ⟨rfl, rfl⟩
set_option maxRecDepth 100000 in
set_option maxHeartbeats 4000000 in
theorem r_match (x y : MatchD) (hx : MatchOk x) (hy : MatchOk y) (w : World) : Calls Try.prog 46 #[.agg #[.bool x.pres, .int .u64 (hi x.val), .int .u64 (lo x.val), .int .u64 (hi x.mask), .int .u64 (lo x.mask), .int .i64 x.pre, .int .u64 (hi x.high), .int .u64 (lo x.high)], .agg #[.bool y.pres, .int .u64 (hi y.val), .int .u64 (lo y.val), .int .u64 (hi y.mask), .int .u64 (lo y.mask), .int .i64 y.pre, .int .u64 (hi y.high), .int .u64 (lo y.high)]] w (RetX (.int .i64 (matI x y)) w) := by
  obtain ⟨W0, hW0⟩ : ∃ W, W = ((w.alloc (.cells #[.bool x.pres, .int .u64 (hi x.val), .int .u64 (lo x.val), .int .u64 (hi x.mask), .int .u64 (lo x.mask), .int .i64 x.pre, .int .u64 (hi x.high), .int .u64 (lo x.high)] 75)).alloc (.cells #[.bool y.pres, .int .u64 (hi y.val), .int .u64 (lo y.val), .int .u64 (hi y.mask), .int .u64 (lo y.mask), .int .i64 y.pre, .int .u64 (hi y.high), .int .u64 (lo y.high)] 75)) := ⟨_, rfl⟩
  have hB0 : Below w.heap.size w W0 := by rw [hW0]; exact (((Below.refl w.heap.size w).alloc (by simp <;> omega) _).alloc (by simp <;> omega) _)
  have hz0 : W0.heap.size = w.heap.size + 2 := by rw [hW0]; simp
  have b0_0 : W0.heap[w.heap.size]? = some (.cells #[.bool x.pres, .int .u64 (hi x.val), .int .u64 (lo x.val), .int .u64 (hi x.mask), .int .u64 (lo x.mask), .int .i64 x.pre, .int .u64 (hi x.high), .int .u64 (lo x.high)] 75 (0, 0)) := by
    rw [hW0]
    exact (((Below.refl (w.alloc (.cells #[.bool x.pres, .int .u64 (hi x.val), .int .u64 (lo x.val), .int .u64 (hi x.mask), .int .u64 (lo x.mask), .int .i64 x.pre, .int .u64 (hi x.high), .int .u64 (lo x.high)] 75)).heap.size (w.alloc (.cells #[.bool x.pres, .int .u64 (hi x.val), .int .u64 (lo x.val), .int .u64 (hi x.mask), .int .u64 (lo x.mask), .int .i64 x.pre, .int .u64 (hi x.high), .int .u64 (lo x.high)] 75))).alloc (by simp <;> omega) _).block w.heap.size (by simp)).trans (heap_alloc_new _ _)
  have b0_1 : W0.heap[w.heap.size + 1]? = some (.cells #[.bool y.pres, .int .u64 (hi y.val), .int .u64 (lo y.val), .int .u64 (hi y.mask), .int .u64 (lo y.mask), .int .i64 y.pre, .int .u64 (hi y.high), .int .u64 (lo y.high)] 75 (0, 0)) := by
    rw [hW0]
    rw [show w.heap.size + 1 = (w.alloc (.cells #[.bool x.pres, .int .u64 (hi x.val), .int .u64 (lo x.val), .int .u64 (hi x.mask), .int .u64 (lo x.mask), .int .i64 x.pre, .int .u64 (hi x.high), .int .u64 (lo x.high)] 75)).heap.size by simp]
    exact heap_alloc_new _ _
  have x1 : W0.cell? ⟨w.heap.size, 1, none⟩ = some (.int .u64 (hi x.val)) := blk_cell b0_0 1 _ rfl
  have x2 : W0.cell? ⟨w.heap.size, 2, none⟩ = some (.int .u64 (lo x.val)) := blk_cell b0_0 2 _ rfl
  have x3 : W0.cell? ⟨w.heap.size, 3, none⟩ = some (.int .u64 (hi x.mask)) := blk_cell b0_0 3 _ rfl
  have x4 : W0.cell? ⟨w.heap.size, 4, none⟩ = some (.int .u64 (lo x.mask)) := blk_cell b0_0 4 _ rfl
  have x5 : W0.cell? ⟨w.heap.size, 5, none⟩ = some (.int .i64 x.pre) := blk_cell b0_0 5 _ rfl
  have x6 : W0.cell? ⟨w.heap.size, 6, none⟩ = some (.int .u64 (hi x.high)) := blk_cell b0_0 6 _ rfl
  have x7 : W0.cell? ⟨w.heap.size, 7, none⟩ = some (.int .u64 (lo x.high)) := blk_cell b0_0 7 _ rfl
  have y1 : W0.cell? ⟨w.heap.size + 1, 1, none⟩ = some (.int .u64 (hi y.val)) := blk_cell b0_1 1 _ rfl
  have y2 : W0.cell? ⟨w.heap.size + 1, 2, none⟩ = some (.int .u64 (lo y.val)) := blk_cell b0_1 2 _ rfl
  have y3 : W0.cell? ⟨w.heap.size + 1, 3, none⟩ = some (.int .u64 (hi y.mask)) := blk_cell b0_1 3 _ rfl
  have y4 : W0.cell? ⟨w.heap.size + 1, 4, none⟩ = some (.int .u64 (lo y.mask)) := blk_cell b0_1 4 _ rfl
  have y5 : W0.cell? ⟨w.heap.size + 1, 5, none⟩ = some (.int .i64 y.pre) := blk_cell b0_1 5 _ rfl
  have y6 : W0.cell? ⟨w.heap.size + 1, 6, none⟩ = some (.int .u64 (hi y.high)) := blk_cell b0_1 6 _ rfl
  have y7 : W0.cell? ⟨w.heap.size + 1, 7, none⟩ = some (.int .u64 (lo y.high)) := blk_cell b0_1 7 _ rfl
  have HB0 := Lib.hid hB0
  have HW0 := Lib.hid hW0
  have HXV := Lib.hid hx.1
  have HXM := Lib.hid hx.2.1
  have HXH := Lib.hid hx.2.2.1
  have HYV := Lib.hid hy.1
  have HYM := Lib.hid hy.2.1
  have HYH := Lib.hid hy.2.2.1
  have hG := eqG_val
  have hqv : ∀ (b : Bool) (_ : b = true ↔ x.val = y.val) (W : World), (Op.equalIn 10000 29 (.agg #[.int .u64 (hi x.val), .int .u64 (lo x.val)]) (.agg #[.int .u64 (hi y.val), .int .u64 (lo y.val)])).run Try.prog W = .ok b W := fun b hb W => eqd_val x.val y.val HXV HYV b hb W
  have hqm : ∀ (b : Bool) (_ : b = true ↔ x.mask = y.mask) (W : World), (Op.equalIn 10000 29 (.agg #[.int .u64 (hi x.mask), .int .u64 (lo x.mask)]) (.agg #[.int .u64 (hi y.mask), .int .u64 (lo y.mask)])).run Try.prog W = .ok b W := fun b hb W => eqd_val x.mask y.mask HXM HYM b hb W
  have HQV := Lib.hid hqv
  have HQM := Lib.hid hqm
  have q0 := Lib.hid (blk_cell b0_0 0 _ rfl)
  have q1 := Lib.hid (blk_cell b0_1 0 _ rfl)
  clear hB0 hW0 b0_0 b0_1 hqv hqm hx hy
  by_cases hp : x.pres = y.pres
  · have HE : Hid (x.pres = y.pres) := Lib.hid hp
    have x0 : W0.cell? ⟨w.heap.size, 0, none⟩ = some (.bool y.pres) := by rw [← hp]; exact q0.out
    have y0 : W0.cell? ⟨w.heap.size + 1, 0, none⟩ = some (.bool y.pres) := q1.out
    obtain ⟨P, hP⟩ : ∃ P, P = y.pres := ⟨_, rfl⟩
    rw [← hP] at x0 y0
    clear hp hP
    have hPP : (P != P) = false := by cases P <;> rfl
    by_cases h1 : x.val = y.val
    · have HV := Lib.hid h1
      have e1 := HQV.out true (by simp [h1])
      clear h1
      by_cases h2 : x.mask = y.mask
      · have HM := Lib.hid h2
        have e2 := HQM.out true (by simp [h2])
        clear h2
        by_cases h3 : x.pre = y.pre
        · have h3b : (x.pre != y.pre) = false := by simp [h3]
          have HR := Lib.hid h3
          have ef : matI x y = cmp x.high y.high := by unfold matI; rw [if_neg (fun h => h HE.out), if_neg (fun h => h HV.out), if_neg (fun h => h HM.out), if_neg (fun h => h HR.out)]
          have EF := Lib.hid ef
          clear ef h3
          go_enter Try.func46, Try.ntmps46
          go_upto_region 1 with fail
          rw [← HW0.out]
          go_wp2_with (first
            | ((with_reducible refine (rcompare_any _ _ HXV.out HYV.out _).mono ?_); rintro en v1 ⟨rfl, hv1⟩)
            | ((with_reducible refine (rcompare_any _ _ HXM.out HYM.out _).mono ?_); rintro en v1 ⟨rfl, hv1⟩)
            | ((with_reducible refine (rcompare_any _ _ HXH.out HYH.out _).mono ?_); rintro en v1 ⟨rfl, hv1⟩)
            | ((with_reducible refine (r_number _ _ _).mono ?_); rintro en v1 ⟨rfl, rfl⟩))
          go_ret
          exact ⟨by rw [EF.out]; rfl, by first
            | exact HB0.out
            | exact HB0.out.trans (hv1.mono HB0.out.size)⟩
        · have h3b : (x.pre != y.pre) = true := by simp [h3]
          have ef : matI x y = sgI x.pre y.pre := by unfold matI; rw [if_neg (fun h => h HE.out), if_neg (fun h => h HV.out), if_neg (fun h => h HM.out), if_pos h3]
          have EF := Lib.hid ef
          clear ef h3
          go_enter Try.func46, Try.ntmps46
          go_upto_region 1 with fail
          rw [← HW0.out]
          go_wp2_with (first
            | ((with_reducible refine (rcompare_any _ _ HXV.out HYV.out _).mono ?_); rintro en v1 ⟨rfl, hv1⟩)
            | ((with_reducible refine (rcompare_any _ _ HXM.out HYM.out _).mono ?_); rintro en v1 ⟨rfl, hv1⟩)
            | ((with_reducible refine (rcompare_any _ _ HXH.out HYH.out _).mono ?_); rintro en v1 ⟨rfl, hv1⟩)
            | ((with_reducible refine (r_number _ _ _).mono ?_); rintro en v1 ⟨rfl, rfl⟩))
          go_ret
          exact ⟨by rw [EF.out]; rfl, by first
            | exact HB0.out
            | exact HB0.out.trans (hv1.mono HB0.out.size)⟩
      · have e2 := HQM.out false (by simp [h2])
        have ef : matI x y = cmp x.mask y.mask := by unfold matI; rw [if_neg (fun h => h HE.out), if_neg (fun h => h HV.out), if_pos h2]
        have EF := Lib.hid ef
        clear ef h2
        go_enter Try.func46, Try.ntmps46
        go_upto_region 1 with fail
        rw [← HW0.out]
        go_wp2_with (first
          | ((with_reducible refine (rcompare_any _ _ HXV.out HYV.out _).mono ?_); rintro en v1 ⟨rfl, hv1⟩)
          | ((with_reducible refine (rcompare_any _ _ HXM.out HYM.out _).mono ?_); rintro en v1 ⟨rfl, hv1⟩)
          | ((with_reducible refine (rcompare_any _ _ HXH.out HYH.out _).mono ?_); rintro en v1 ⟨rfl, hv1⟩)
          | ((with_reducible refine (r_number _ _ _).mono ?_); rintro en v1 ⟨rfl, rfl⟩))
        go_ret
        exact ⟨by rw [EF.out]; rfl, by first
          | exact HB0.out
          | exact HB0.out.trans (hv1.mono HB0.out.size)⟩
    · have e1 := HQV.out false (by simp [h1])
      have ef : matI x y = cmp x.val y.val := by unfold matI; rw [if_neg (fun h => h HE.out), if_pos h1]
      have EF := Lib.hid ef
      clear ef h1
      go_enter Try.func46, Try.ntmps46
      go_upto_region 1 with fail
      rw [← HW0.out]
      go_wp2_with (first
        | ((with_reducible refine (rcompare_any _ _ HXV.out HYV.out _).mono ?_); rintro en v1 ⟨rfl, hv1⟩)
        | ((with_reducible refine (rcompare_any _ _ HXM.out HYM.out _).mono ?_); rintro en v1 ⟨rfl, hv1⟩)
        | ((with_reducible refine (rcompare_any _ _ HXH.out HYH.out _).mono ?_); rintro en v1 ⟨rfl, hv1⟩)
        | ((with_reducible refine (r_number _ _ _).mono ?_); rintro en v1 ⟨rfl, rfl⟩))
      go_ret
      exact ⟨by rw [EF.out]; rfl, by first
        | exact HB0.out
        | exact HB0.out.trans (hv1.mono HB0.out.size)⟩
  · have ef : matI x y = truI x.pres y.pres := by unfold matI; rw [if_pos hp]
    rw [ef]
    clear ef
    rcases (Bool.eq_false_or_eq_true y.pres).symm with hy0 | hy0
    · have hx0 : x.pres = true := by cases h : x.pres; · exact absurd (h.trans hy0.symm) hp
                                     · rfl
      have x0 : W0.cell? ⟨w.heap.size, 0, none⟩ = some (.bool true) := by rw [← hx0]; exact q0.out
      have y0 : W0.cell? ⟨w.heap.size + 1, 0, none⟩ = some (.bool false) := by rw [← hy0]; exact q1.out
      have EF : Hid (truI x.pres y.pres = 1) := Lib.hid (by rw [hx0, hy0]; rfl)
      clear hp hx0 hy0
      go_enter Try.func46, Try.ntmps46
      go_upto_region 1 with fail
      rw [← HW0.out]
      go_wp2_with (first
        | ((with_reducible refine (rcompare_any _ _ HXV.out HYV.out _).mono ?_); rintro en v1 ⟨rfl, hv1⟩)
        | ((with_reducible refine (rcompare_any _ _ HXM.out HYM.out _).mono ?_); rintro en v1 ⟨rfl, hv1⟩)
        | ((with_reducible refine (rcompare_any _ _ HXH.out HYH.out _).mono ?_); rintro en v1 ⟨rfl, hv1⟩)
        | ((with_reducible refine (r_number _ _ _).mono ?_); rintro en v1 ⟨rfl, rfl⟩))
      go_ret
      exact ⟨by rw [EF.out]; rfl, by first
        | exact HB0.out
        | exact HB0.out.trans (hv1.mono HB0.out.size)⟩
    · have hx0 : x.pres = false := by cases h : x.pres; · rfl
                                      · exact absurd (h.trans hy0.symm) hp
      have x0 : W0.cell? ⟨w.heap.size, 0, none⟩ = some (.bool false) := by rw [← hx0]; exact q0.out
      have y0 : W0.cell? ⟨w.heap.size + 1, 0, none⟩ = some (.bool true) := by rw [← hy0]; exact q1.out
      have EF : Hid (truI x.pres y.pres = -1) := Lib.hid (by rw [hx0, hy0]; rfl)
      clear hp hx0 hy0
      go_enter Try.func46, Try.ntmps46
      go_upto_region 1 with fail
      rw [← HW0.out]
      go_wp2_with (first
        | ((with_reducible refine (rcompare_any _ _ HXV.out HYV.out _).mono ?_); rintro en v1 ⟨rfl, hv1⟩)
        | ((with_reducible refine (rcompare_any _ _ HXM.out HYM.out _).mono ?_); rintro en v1 ⟨rfl, hv1⟩)
        | ((with_reducible refine (rcompare_any _ _ HXH.out HYH.out _).mono ?_); rintro en v1 ⟨rfl, hv1⟩)
        | ((with_reducible refine (r_number _ _ _).mono ?_); rintro en v1 ⟨rfl, rfl⟩))
      go_ret
      exact ⟨by rw [EF.out]; rfl, by first
        | exact HB0.out
        | exact HB0.out.trans (hv1.mono HB0.out.size)⟩
end Go.Proofs.Ythldelnibgdnaaa
