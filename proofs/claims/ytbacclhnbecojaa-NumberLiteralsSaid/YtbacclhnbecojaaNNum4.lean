/- Package number: Neg, top, negative, isValue, and the standard library's comparison. -/
import Derived.Test.YtbacclhnbecojaaNNum3
namespace Go.Proofs.Ytbacclhnbecojaa
open Go.RowKit

set_option maxRecDepth 100000 in
set_option maxHeartbeats 1000000 in
theorem nn_neg (a : Int) (w : World) : Calls Try.prog 11 #[nV a] w (RetN (-a) w) := by
  have es : 0 - a = -a := by omega
  rw [nV_lit]
  go_enter Try.func11, Try.ntmps11
  go_wp2_with (go_at_call 20; refine (nn_sub 0 a _).mono ?_; rintro e w1 ⟨rfl, hb⟩; obtain ⟨hc, hf, hz⟩ := after (w.heap.size + 2) hb (by simp) (by simp); rw [es])
  refine bodyPost_ret (v := .agg #[.int .u32 (wd (-a) 0), .int .u32 (wd (-a) 1), .int .u32 (wd (-a) 2), .int .u32 (wd (-a) 3), .int .u32 (wd (-a) 4), .int .u32 (wd (-a) 5)]) (by simp [results, Try.results11, go_sem, hc]) rfl ⟨rfl, ?_⟩
  exact store6 ((((Below.refl _ _).alloc (by simp) _).alloc (by simp) _).trans (hb.mono (by simp; omega))) (by omega) _ _ _ _ _ _

/-- the highest word with the sign -/
def tp (z : Int) : Int := z / pw 5
theorem tp_b (z : Int) (h : Rg z) : -2147483648 ≤ tp z ∧ tp z < 2147483648 := by
  have h5 : pw 5 = 1461501637330902918203684832716283019655932542976 := rfl
  unfold Rg at h; unfold tp; rw [h5]; omega
theorem tp_wrap (z : Int) (h : Rg z) : wrap32 (wd z 5) = tp z := by
  have hb := tp_b z h
  have e : wd z 5 = tp z % 4294967296 := rfl
  rw [e]
  unfold wrap32
  omega
set_option maxRecDepth 100000 in
set_option maxHeartbeats 1000000 in
theorem nn_top (z : Int) (h : Rg z) (w : World) : Calls Try.prog 37 #[nV z] w (RetX (.int .i32 (tp z)) w) := by
  have T := Lib.hid (tp_wrap z h)
  have w0 := wd_0 z 5
  have w1 := wd_1 z 5
  clear h
  rw [nV_lit]
  go_enter Try.func37, Try.ntmps37
  go_wp2
  go_ret
  refine ⟨?_, (Below.refl _ _).alloc (by simp) _⟩
  show Ending.returned (.int .i32 (wrap32 (wd z 5))) = _
  rw [T.out]

/-- the sign of a difference -/
def sgn (a b : Int) : Int := if a = b then 0 else if a < b then -1 else 1
set_option maxRecDepth 100000 in
set_option maxHeartbeats 1000000 in
theorem nn_nan32 (x : Int) (w : World) : Calls Try.prog 51 #[.int .i32 x] w fun e w' => e = .returned (.bool false) ∧ w = w' := by
  go_enter Try.func51, Try.ntmps51
  go_wp2
  go_ret
  exact ⟨by simp, rfl⟩
set_option maxRecDepth 100000 in
set_option maxHeartbeats 1000000 in
theorem nn_nanu (x : Int) (w : World) : Calls Try.prog 52 #[.int .u32 x] w fun e w' => e = .returned (.bool false) ∧ w = w' := by
  go_enter Try.func52, Try.ntmps52
  go_wp2
  go_ret
  exact ⟨by simp, rfl⟩
set_option maxRecDepth 100000 in
set_option maxHeartbeats 1000000 in
theorem nn_cmp32 (x y : Int) (w : World) : Calls Try.prog 36 #[.int .i32 x, .int .i32 y] w fun e w' => e = .returned (.int .i64 (sgn x y)) ∧ w = w' := by
  by_cases h1 : x < y
  · have e : sgn x y = -1 := by unfold sgn; rw [if_neg (by omega), if_pos h1]
    rw [e]; clear e
    go_enter Try.func36, Try.ntmps36
    go_wp2_with (go_at_call 51; refine (nn_nan32 _ _).mono ?_; rintro e w' ⟨rfl, rfl⟩)
    go_ret
    exact ⟨rfl, rfl⟩
  · by_cases h2 : y < x
    · have e : sgn x y = 1 := by unfold sgn; rw [if_neg (by omega), if_neg h1]
      rw [e]; clear e
      go_enter Try.func36, Try.ntmps36
      go_wp2_with (go_at_call 51; refine (nn_nan32 _ _).mono ?_; rintro e w' ⟨rfl, rfl⟩)
      go_ret
      exact ⟨rfl, rfl⟩
    · have e : sgn x y = 0 := by unfold sgn; rw [if_pos (by omega)]
      rw [e]; clear e
      go_enter Try.func36, Try.ntmps36
      go_wp2_with (go_at_call 51; refine (nn_nan32 _ _).mono ?_; rintro e w' ⟨rfl, rfl⟩)
      go_ret
      exact ⟨rfl, rfl⟩
set_option maxRecDepth 100000 in
set_option maxHeartbeats 1000000 in
theorem nn_cmpu (x y : Int) (w : World) : Calls Try.prog 38 #[.int .u32 x, .int .u32 y] w fun e w' => e = .returned (.int .i64 (sgn x y)) ∧ w = w' := by
  by_cases h1 : x < y
  · have e : sgn x y = -1 := by unfold sgn; rw [if_neg (by omega), if_pos h1]
    rw [e]; clear e
    go_enter Try.func38, Try.ntmps38
    go_wp2_with (go_at_call 52; refine (nn_nanu _ _).mono ?_; rintro e w' ⟨rfl, rfl⟩)
    go_ret
    exact ⟨rfl, rfl⟩
  · by_cases h2 : y < x
    · have e : sgn x y = 1 := by unfold sgn; rw [if_neg (by omega), if_neg h1]
      rw [e]; clear e
      go_enter Try.func38, Try.ntmps38
      go_wp2_with (go_at_call 52; refine (nn_nanu _ _).mono ?_; rintro e w' ⟨rfl, rfl⟩)
      go_ret
      exact ⟨rfl, rfl⟩
    · have e : sgn x y = 0 := by unfold sgn; rw [if_pos (by omega)]
      rw [e]; clear e
      go_enter Try.func38, Try.ntmps38
      go_wp2_with (go_at_call 52; refine (nn_nanu _ _).mono ?_; rintro e w' ⟨rfl, rfl⟩)
      go_ret
      exact ⟨rfl, rfl⟩
set_option maxRecDepth 100000 in
set_option maxHeartbeats 1000000 in
theorem nn_negative (z : Int) (h : Rg z) (w : World) : Calls Try.prog 28 #[nV z] w (RetX (.bool (decide (z < 0))) w) := by
  have ht : decide (tp z < 0) = decide (z < 0) := by
    have h5 : pw 5 = 1461501637330902918203684832716283019655932542976 := rfl
    unfold tp; rw [h5, decide_eq_decide]; omega
  have T := Lib.hid ht
  clear ht
  rw [nV_lit]
  go_enter Try.func28, Try.ntmps28
  go_wp2_with (go_at_call 37; refine (nn_top z h _).mono ?_; rintro e w1 ⟨rfl, hb⟩)
  go_ret
  refine ⟨?_, ((Below.refl _ _).alloc (by simp) _).trans (hb.mono (by simp))⟩
  show Ending.returned (.bool (decide (tp z < 0))) = _
  rw [T.out]
end Go.Proofs.Ytbacclhnbecojaa
