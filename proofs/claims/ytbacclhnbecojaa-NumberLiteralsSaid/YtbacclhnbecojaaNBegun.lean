/- The law's sanity check. -/
import Derived.Test.YtbacclhnbecojaaNRText
namespace Go.Proofs.Ytbacclhnbecojaa
open Go.RowKit
theorem dg_ex : dg 18446744073709551613 = [3, 1, 6, 1, 5, 5, 9, 0, 7, 3, 7, 0, 4, 4, 7, 6, 4, 4, 8, 1] := by
  rw [dg_hi (by decide), dg_hi (by decide), dg_hi (by decide), dg_hi (by decide), dg_hi (by decide), dg_hi (by decide), dg_hi (by decide), dg_hi (by decide), dg_hi (by decide), dg_hi (by decide), dg_hi (by decide), dg_hi (by decide), dg_hi (by decide), dg_hi (by decide), dg_hi (by decide), dg_hi (by decide), dg_hi (by decide), dg_hi (by decide), dg_hi (by decide), dg_lo (by decide)]
theorem tl_ex (V : Nat) (h : V = 18446744073709551616) : strN (tl (3 - (V : Int))) = ⟨#[45, 49, 56, 52, 52, 54, 55, 52, 52, 48, 55, 51, 55, 48, 57, 53, 53, 49, 54, 49, 51]⟩ := by
  have h1 : (3 - (V : Int)).natAbs = 18446744073709551613 := by omega
  have e : tl (3 - (V : Int)) = [45, 49, 56, 52, 52, 54, 55, 52, 52, 48, 55, 51, 55, 48, 57, 53, 53, 49, 54, 49, 51] := by
    unfold tl
    rw [h1, if_pos (by omega), dg_ex]
    rfl
  rw [e]; rfl
theorem from_ex (V : Nat) (h : V = 18446744073709551616) (w : World) : Calls Try.prog 24 #[.agg #[.int .u64 1, .int .u64 0]] w (RetN V w) := by
  have h1 : hi V = 1 := by unfold hi; omega
  have h2 : lo V = 0 := by unfold lo; omega
  have hF := nn_from V (by omega) w
  rw [h1, h2] at hF
  exact hF
theorem text_ex (V : Nat) (h : V = 18446744073709551616) (w : World) : Calls Try.prog 9 #[nV (3 - (V : Int))] w (RetX (.string ⟨#[45, 49, 56, 52, 52, 54, 55, 52, 52, 48, 55, 51, 55, 48, 57, 53, 53, 49, 54, 49, 51]⟩) w) := by
  have hT := nn_text (3 - (V : Int)) (by omega) (by omega) w
  rw [tl_ex V h] at hT
  exact hT
set_option maxRecDepth 100000 in
set_option maxHeartbeats 2000000 in
theorem nb_begun (w : World) : Calls Try.prog 17 #[] w (RetX (.bool true) w) := by
  obtain ⟨V, hV⟩ : ∃ V : Nat, V = 18446744073709551616 := ⟨_, rfl⟩
  have HV := Lib.hid hV
  clear hV
  go_enter Try.func17, Try.ntmps17
  go_wp2_with fail
  go_at_call 13
  refine (nn_of 3 (by decide) (by decide) _).mono ?_
  rintro e w1 ⟨rfl, hb1⟩
  go_wp2_with fail
  go_at_call 24
  refine (from_ex V HV.out _).mono ?_
  rintro e w2 ⟨rfl, hb2⟩
  go_wp2_with fail
  go_at_call 20
  refine (nn_sub 3 (V : Int) _).mono ?_
  rintro e w3 ⟨rfl, hb3⟩
  go_wp2_with fail
  go_at_call 9
  refine (text_ex V HV.out _).mono ?_
  rintro e w4 ⟨rfl, hb4⟩
  go_wp2
  go_ret
  refine ⟨by first | rfl | simp, ?_⟩
  exact ((hb1.trans (hb2.mono hb1.size)).trans (hb3.mono (Nat.le_trans hb1.size hb2.size))).trans (hb4.mono (Nat.le_trans (Nat.le_trans hb1.size hb2.size) hb3.size))
end Go.Proofs.Ytbacclhnbecojaa
