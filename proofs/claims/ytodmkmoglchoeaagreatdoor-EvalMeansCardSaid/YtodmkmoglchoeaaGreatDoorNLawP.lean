/- What layer 5's laws need besides: Compare of any two, bounds of sums. -/
import Derived.Test.YtodmkmoglchoeaaGreatDoorNBegun
namespace Go.Proofs.YtodmkmoglchoeaaGreatDoor
open Go.RowKit

theorem nn_cmp (a b : Int) (ha : Rg a) (hb : Rg b) (w : World) : Calls Tryz.prog 149 #[.agg #[.int .u32 (wd a 0), .int .u32 (wd a 1), .int .u32 (wd a 2), .int .u32 (wd a 3), .int .u32 (wd a 4), .int .u32 (wd a 5)], .agg #[.int .u32 (wd b 0), .int .u32 (wd b 1), .int .u32 (wd b 2), .int .u32 (wd b 3), .int .u32 (wd b 4), .int .u32 (wd b 5)]] w (RetX (.int .i64 (sgn a b)) w) := by
  by_cases h : a = b
  · subst h
    have e : sgn a a = 0 := by unfold sgn; rw [if_pos rfl]
    rw [e]
    exact nn_cmp_eq a ha w
  · exact nn_cmp_ne a b ha hb h w
theorem nn_addL (a b : Int) (w : World) : Calls Tryz.prog 147 #[.agg #[.int .u32 (wd a 0), .int .u32 (wd a 1), .int .u32 (wd a 2), .int .u32 (wd a 3), .int .u32 (wd a 4), .int .u32 (wd a 5)], .agg #[.int .u32 (wd b 0), .int .u32 (wd b 1), .int .u32 (wd b 2), .int .u32 (wd b 3), .int .u32 (wd b 4), .int .u32 (wd b 5)]] w (RetN (a + b) w) := nn_add a b w
theorem nn_subL (a b : Int) (w : World) : Calls Tryz.prog 148 #[.agg #[.int .u32 (wd a 0), .int .u32 (wd a 1), .int .u32 (wd a 2), .int .u32 (wd a 3), .int .u32 (wd a 4), .int .u32 (wd a 5)], .agg #[.int .u32 (wd b 0), .int .u32 (wd b 1), .int .u32 (wd b 2), .int .u32 (wd b 3), .int .u32 (wd b 4), .int .u32 (wd b 5)]] w (RetN (a - b) w) := nn_sub a b w
/-- what 20 values come to at most -/
def Sb (z : Int) : Prop := -(21 * 2 ^ 128) ≤ z ∧ z ≤ 21 * 2 ^ 128
theorem Sb.text {z : Int} (h : Sb z) : -(10 ^ 57) < z ∧ z < 10 ^ 57 := by unfold Sb at h; omega
end Go.Proofs.YtodmkmoglchoeaaGreatDoor
