/- What layer 5's laws need besides: Compare of any two, bounds of sums. -/
import Derived.Test.YtodmkmoglchoeaaDoorNBegun
namespace Go.Proofs.YtodmkmoglchoeaaDoor
open Go.RowKit

theorem nn_cmp (a b : Int) (ha : Rg a) (hb : Rg b) (w : World) : Calls Tryd.prog 84 #[.agg #[.int .u32 (wd a 0), .int .u32 (wd a 1), .int .u32 (wd a 2), .int .u32 (wd a 3), .int .u32 (wd a 4), .int .u32 (wd a 5)], .agg #[.int .u32 (wd b 0), .int .u32 (wd b 1), .int .u32 (wd b 2), .int .u32 (wd b 3), .int .u32 (wd b 4), .int .u32 (wd b 5)]] w (RetX (.int .i64 (sgn a b)) w) := by
  by_cases h : a = b
  · subst h
    have e : sgn a a = 0 := by unfold sgn; rw [if_pos rfl]
    rw [e]
    exact nn_cmp_eq a ha w
  · exact nn_cmp_ne a b ha hb h w
theorem nn_addL (a b : Int) (w : World) : Calls Tryd.prog 82 #[.agg #[.int .u32 (wd a 0), .int .u32 (wd a 1), .int .u32 (wd a 2), .int .u32 (wd a 3), .int .u32 (wd a 4), .int .u32 (wd a 5)], .agg #[.int .u32 (wd b 0), .int .u32 (wd b 1), .int .u32 (wd b 2), .int .u32 (wd b 3), .int .u32 (wd b 4), .int .u32 (wd b 5)]] w (RetN (a + b) w) := nn_add a b w
theorem nn_subL (a b : Int) (w : World) : Calls Tryd.prog 83 #[.agg #[.int .u32 (wd a 0), .int .u32 (wd a 1), .int .u32 (wd a 2), .int .u32 (wd a 3), .int .u32 (wd a 4), .int .u32 (wd a 5)], .agg #[.int .u32 (wd b 0), .int .u32 (wd b 1), .int .u32 (wd b 2), .int .u32 (wd b 3), .int .u32 (wd b 4), .int .u32 (wd b 5)]] w (RetN (a - b) w) := nn_sub a b w
theorem sgn_anti (a b : Int) : sgn b a = -sgn a b := by
  unfold sgn
  split <;> split <;> (try split) <;> (try split) <;> omega
theorem sgn_zero (a b : Int) : (sgn a b = 0) ↔ a = b := by
  unfold sgn
  split
  · simp_all
  · split <;> simp_all
theorem sgn_add (a b c : Int) : sgn (a + c) (b + c) = sgn a b := by
  unfold sgn
  split <;> split <;> (try split) <;> (try split) <;> omega
theorem sgn_sub (a b : Int) : sgn (a - b) 0 = sgn a b := by
  unfold sgn
  split <;> split <;> (try split) <;> (try split) <;> omega
/-- what 20 values come to at most -/
def Sb (z : Int) : Prop := -(21 * 2 ^ 128) ≤ z ∧ z ≤ 21 * 2 ^ 128
theorem sm_sb (f : Nat → Nat) (g : Nat → Bool) (m : Nat) (hf : ∀ i, f i < 2 ^ 128) (n : Nat) : Sb (sm f g m (min n 20)) := by
  have h := sm_b f g m hf (min n 20)
  unfold Sb
  omega
theorem Sb.rg {z : Int} (h : Sb z) : Rg z := by unfold Sb at h; unfold Rg; omega
theorem Sb.rg_sub {a b : Int} (ha : Sb a) (hb : Sb b) : Rg (a - b) := by unfold Sb at ha hb; unfold Rg; omega
theorem Sb.rg_add {a b : Int} (ha : Sb a) (hb : Sb b) : Rg (a + b) := by unfold Sb at ha hb; unfold Rg; omega
theorem Sb.rg_add3 {a b c : Int} (ha : Sb a) (hb : Sb b) (hc : Sb c) : Rg (a + b + c) := by unfold Sb at ha hb hc; unfold Rg; omega
theorem Sb.bd_sub {a b : Int} (ha : Sb a) (hb : Sb b) : Bd (a - b) := by
  unfold Sb at ha hb; unfold Bd
  have : (a - b).natAbs < 2 ^ 140 := by omega
  exact Nat.lt_trans this (by decide +kernel)
theorem Sb.text {z : Int} (h : Sb z) : -(10 ^ 57) < z ∧ z < 10 ^ 57 := by unfold Sb at h; omega
end Go.Proofs.YtodmkmoglchoeaaDoor
