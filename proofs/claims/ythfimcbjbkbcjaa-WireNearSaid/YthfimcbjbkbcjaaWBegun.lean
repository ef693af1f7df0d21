/- The example of the chapter. -/
import Derived.Test.YthfimcbjbkbcjaaWRefW
namespace Go.Proofs.Ythfimcbjbkbcjaa
open Go.RowKit

theorem nb_256 : nb 256 = 2 := by decide +kernel
theorem bl_256 : bl 256 = [1, 0] := by decide +kernel
theorem str_ex : strL [2, 1, 0] = ⟨#[2, 1, 0]⟩ := by decide +kernel
theorem hi_256 : hi 256 = 0 := by decide +kernel
theorem lo_256 : lo 256 = 256 := by decide +kernel
theorem wbegun_any (w : World) : Calls Try.prog 9 #[] w fun e w' => e = .returned (.bool true) ∧ Below w.heap.size w w' := by
  have hv : ∀ w, Calls Try.prog 28 #[.slice none 0 0, .agg #[.int .u64 0, .int .u64 256]] w (RetS [2, 1, 0] w) := fun w => by
    have h := avalue_any none 0 0 0 [] w 256 (by decide) (.inl rfl) rfl (by decide)
    rw [nb_256, bl_256, hi_256, lo_256, show ((2 : Nat) : Int) = 2 from rfl, show encU 2 1 = [2] from encU_byte 2 (by decide)] at h
    exact h
  have HV := Lib.hid hv
  clear hv
  go_enter Try.func9, Try.ntmps9
  go_wp2_with (go_at_call 28; refine (HV.out _).mono ?_; rintro e w1 ⟨A1, n1, cap1, g1, rfl, hn1, hr1, hg1, hq1, hb1⟩; have hcv := conv_list cap1 hr1 hn1.out.symm; rw [str_ex] at hcv)
  go_ret
  exact ⟨rfl, hb1⟩
end Go.Proofs.Ythfimcbjbkbcjaa
