/- Ones, Leading, Not, Add and Sub of package value. -/
import Derived.Test.YthfimcbjbkbcjaaVal3
namespace Go.Proofs.Ythfimcbjbkbcjaa
open Go.RowKit

theorem hi_max : hi (2 ^ 128 - 1) = 18446744073709551615 := by decide
theorem lo_max : lo (2 ^ 128 - 1) = 18446744073709551615 := by decide
theorem ones_eq (k : Int) : (2 ^ 128 - 1) / 2 ^ (128 - min (max k 0) 128).toNat = 2 ^ cl k - 1 := by
  have h : (128 - min (max k 0) 128).toNat = 128 - cl k := by unfold cl; omega
  have hc := cl_le k
  rw [h]
  generalize cl k = c at hc ⊢
  apply Nat.eq_of_testBit_eq; intro i
  rw [Nat.testBit_div_two_pow, Nat.testBit_two_pow_sub_one, Nat.testBit_two_pow_sub_one]
  simp; omega
/-- That many ones. -/
def ones (k : Int) : Nat := 2 ^ cl k - 1
theorem right_max (k : Int) (w : World) :
    Calls Try.prog 74 #[.agg #[.int .u64 18446744073709551615, .int .u64 18446744073709551615], .int .i64 (128 - min (max k 0) 128)] w (RetV (ones k) w) := by
  have h := right_any (2 ^ 128 - 1) (128 - min (max k 0) 128) (by decide) (by omega) w
  rw [hi_max, lo_max, ones_eq] at h
  exact h
theorem clamp_0 (k : Int) : 0 ≤ min (max k 0) 128 := by omega
theorem clamp_1 (k : Int) : min (max k 0) 128 ≤ 128 := by omega

/-- The value of that many bits whose n highest are 1. -/
def lead (k n : Int) : Nat := ones (min (max k 0) 128) ^^^ ones (min (max k 0) 128 - min (max n 0) (min (max k 0) 128))
theorem clamp_2 (n m : Int) (h : 0 ≤ m) : 0 ≤ min (max n 0) m := by omega
theorem clamp_3 (n m : Int) : min (max n 0) m ≤ m := by omega
end Go.Proofs.Ythfimcbjbkbcjaa
