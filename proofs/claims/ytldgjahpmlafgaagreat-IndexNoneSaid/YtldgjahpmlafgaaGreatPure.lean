/- Plain arithmetic of 128-bit values as pairs of 64-bit words: no program in sight. -/
import Derived.Test.YtldgjahpmlafgaaGreatRows
import Derived.WalkKit
import Derived.WalkSpells
import Derived.WalkLawsBesides
import Derived.RowKit3
import Derived.Lib.BitFns
namespace Go.Proofs.YtldgjahpmlafgaaGreat
open Go.RowKit

def hi (n : Nat) : Int := ((n / 18446744073709551616 % 18446744073709551616 : Nat) : Int)
def lo (n : Nat) : Int := ((n % 18446744073709551616 : Nat) : Int)

/-- The call returns the value n; nothing that there was is changed. -/
def RetV (n : Nat) (w : World) (e : Ending) (w' : World) : Prop := e = .returned (.agg #[.int .u64 (hi n), .int .u64 (lo n)]) ∧ Below w.heap.size w w'
/-- The call returns v; nothing that there was is changed. -/
def RetX (v : Value) (w : World) (e : Ending) (w' : World) : Prop := e = .returned v ∧ Below w.heap.size w w'

/-- What a call leaves as it was, of the first n blocks. -/
theorem after {W w1 : World} {B : Nat} (n : Nat) (hb : Below B W w1) (h : n ≤ B) (h' : n ≤ W.heap.size) :
    (∀ b o, b < n → w1.cell? ⟨b, o, none⟩ = W.cell? ⟨b, o, none⟩) ∧ (∀ b o, b < n → w1.frozen? ⟨b, o, none⟩ = W.frozen? ⟨b, o, none⟩) ∧ (∀ b, b < n → b < w1.heap.size) :=
  ⟨fun _ _ k => hb.cell (p := ⟨_, _, none⟩) (Nat.lt_of_lt_of_le k h), fun _ _ k => hb.frozen (p := ⟨_, _, none⟩) (Nat.lt_of_lt_of_le k h), fun _ k => Nat.lt_of_lt_of_le k (Nat.le_trans h' hb.size)⟩
theorem hi_0 (n : Nat) : 0 ≤ hi n := by unfold hi; omega
theorem hi_1 (n : Nat) : hi n < 18446744073709551616 := by unfold hi; omega
theorem lo_0 (n : Nat) : 0 ≤ lo n := by unfold lo; omega
theorem lo_1 (n : Nat) : lo n < 18446744073709551616 := by unfold lo; omega

theorem hi_inj {a b : Nat} (ha : a < 2 ^ 128) (hb : b < 2 ^ 128) (h : hi a = hi b) (l : lo a = lo b) : a = b := by
  unfold hi at h; unfold lo at l; omega

theorem p64 : (18446744073709551616 : Nat) = 2 ^ 64 := by decide
theorem and_hi (a b : Nat) : bits .and .u64 (hi a) (hi b) = hi (a &&& b) := by
  unfold hi
  rw [u64_and_nat _ _ (by omega) (by omega)]
  congr 1
  apply Nat.eq_of_testBit_eq; intro i
  simp only [p64, Nat.testBit_and, Nat.testBit_mod_two_pow, Nat.testBit_div_two_pow]
  by_cases h : i < 64 <;> simp [h]
theorem and_lo (a b : Nat) : bits .and .u64 (lo a) (lo b) = lo (a &&& b) := by
  unfold lo
  rw [u64_and_nat _ _ (by omega) (by omega)]
  congr 1
  apply Nat.eq_of_testBit_eq; intro i
  simp only [p64, Nat.testBit_and, Nat.testBit_mod_two_pow]
  by_cases h : i < 64 <;> simp [h]
theorem or_hi (a b : Nat) : bits .or .u64 (hi a) (hi b) = hi (a ||| b) := by
  unfold hi
  rw [u64_or_nat _ _ (by omega) (by omega)]
  congr 1
  apply Nat.eq_of_testBit_eq; intro i
  simp only [p64, Nat.testBit_or, Nat.testBit_mod_two_pow, Nat.testBit_div_two_pow]
  by_cases h : i < 64 <;> simp [h]
theorem or_lo (a b : Nat) : bits .or .u64 (lo a) (lo b) = lo (a ||| b) := by
  unfold lo
  rw [u64_or_nat _ _ (by omega) (by omega)]
  congr 1
  apply Nat.eq_of_testBit_eq; intro i
  simp only [p64, Nat.testBit_or, Nat.testBit_mod_two_pow]
  by_cases h : i < 64 <;> simp [h]
theorem xor_hi (a b : Nat) : bits .xor .u64 (hi a) (hi b) = hi (a ^^^ b) := by
  unfold hi
  rw [u64_xor_nat _ _ (by omega) (by omega)]
  congr 1
  apply Nat.eq_of_testBit_eq; intro i
  simp only [p64, Nat.testBit_xor, Nat.testBit_mod_two_pow, Nat.testBit_div_two_pow]
  by_cases h : i < 64 <;> simp [h]
theorem xor_lo (a b : Nat) : bits .xor .u64 (lo a) (lo b) = lo (a ^^^ b) := by
  unfold lo
  rw [u64_xor_nat _ _ (by omega) (by omega)]
  congr 1
  apply Nat.eq_of_testBit_eq; intro i
  simp only [p64, Nat.testBit_xor, Nat.testBit_mod_two_pow]
  by_cases h : i < 64 <;> simp [h]

/-- All 128 bits but those of a. -/
def compl (a : Nat) : Nat := 2 ^ 128 - 1 - a % 2 ^ 128
set_option maxRecDepth 100000 in
theorem testBit_compl (a i : Nat) : (compl a).testBit i = (decide (i < 128) && !a.testBit i) := by
  unfold compl
  have := Nat.testBit_two_pow_sub_succ (x := a % 2 ^ 128) (n := 128) (Nat.mod_lt _ (by decide)) i
  rw [show 2 ^ 128 - 1 - a % 2 ^ 128 = 2 ^ 128 - (a % 2 ^ 128 + 1) by omega, this, Nat.testBit_mod_two_pow]
  by_cases h : i < 128 <;> simp [h]
set_option maxRecDepth 100000 in
theorem andNot_hi (a b : Nat) : bits .andNot .u64 (hi a) (hi b) = hi (a &&& compl b) := by
  unfold hi
  rw [u64_andNot_nat _ _ (by omega) (by omega)]
  congr 1
  apply Nat.eq_of_testBit_eq; intro i
  have := Nat.testBit_two_pow_sub_succ (x := b / 18446744073709551616 % 18446744073709551616) (n := 64) (Nat.mod_lt _ (by decide)) i
  rw [show 18446744073709551615 - b / 18446744073709551616 % 18446744073709551616 = 2 ^ 64 - (b / 18446744073709551616 % 18446744073709551616 + 1) by omega]
  simp only [Nat.testBit_and, this]
  simp only [p64, Nat.testBit_and, Nat.testBit_mod_two_pow, Nat.testBit_div_two_pow, testBit_compl]
  by_cases h : i < 64
  · have : i + 64 < 128 := by omega
    simp [h, this]
  · simp [h]
set_option maxRecDepth 100000 in
theorem andNot_lo (a b : Nat) : bits .andNot .u64 (lo a) (lo b) = lo (a &&& compl b) := by
  unfold lo
  rw [u64_andNot_nat _ _ (by omega) (by omega)]
  congr 1
  apply Nat.eq_of_testBit_eq; intro i
  have := Nat.testBit_two_pow_sub_succ (x := b % 18446744073709551616) (n := 64) (Nat.mod_lt _ (by decide)) i
  rw [show 18446744073709551615 - b % 18446744073709551616 = 2 ^ 64 - (b % 18446744073709551616 + 1) by omega]
  simp only [Nat.testBit_and, this]
  simp only [p64, Nat.testBit_and, Nat.testBit_mod_two_pow, testBit_compl]
  by_cases h : i < 64
  · have : i < 128 := by omega
    simp [h, this]
  · simp [h]

/-- The sum, the difference and the value shifted up, of 128 bits. -/
def vsum (a b : Nat) : Nat := (a + b) % 2 ^ 128
def vdif (a b : Nat) : Nat := (a + 2 ^ 128 - b) % 2 ^ 128
def vleft (a k : Nat) : Nat := a * 2 ^ k % 2 ^ 128
/-- A number of bits in its range. -/
def cl (k : Int) : Nat := (min (max k 0) 128).toNat
set_option maxRecDepth 100000 in
theorem cl_le (k : Int) : cl k ≤ 128 := by unfold cl; omega

/-! the two words of a shifted value, as the program computes them -/
set_option maxRecDepth 100000 in
theorem right_hi_small (a k : Nat) (hk : k ≤ 64) (ha : a < 2 ^ 128) : hi a / 2 ^ k = hi (a / 2 ^ k) := by
  unfold hi
  rw [show ((2 : Int) ^ k) = ((2 ^ k : Nat) : Int) by simp, ← Int.natCast_ediv]
  congr 1
  apply Nat.eq_of_testBit_eq; intro i
  simp only [p64, Nat.testBit_mod_two_pow, Nat.testBit_div_two_pow]
  by_cases h : i + k < 64
  · have : i < 64 := by omega
    simp [h, this]; congr 1; omega
  · have e : a.testBit (i + k + 64) = false := Nat.testBit_lt_two_pow (Nat.lt_of_lt_of_le ha (Nat.pow_le_pow_right (by decide) (by omega)))
    have e2 : a.testBit (i + 64 + k) = false := by rw [show i + 64 + k = i + k + 64 by omega]; exact e
    simp [h, e2]
set_option maxRecDepth 100000 in
theorem right_lo_small (a k : Nat) (hk0 : 0 < k) (hk : k < 64) : bits .or .u64 (lo a / 2 ^ k) (hi a * 2 ^ (64 - k) % 18446744073709551616) = lo (a / 2 ^ k) := by
  unfold hi lo
  rw [show ((2 : Int) ^ k) = ((2 ^ k : Nat) : Int) by simp, ← Int.natCast_ediv, show ((2 : Int) ^ (64 - k)) = ((2 ^ (64 - k) : Nat) : Int) by simp, ← Int.natCast_mul, show (18446744073709551616 : Int) = ((18446744073709551616 : Nat) : Int) from rfl, ← Int.natCast_emod]
  rw [u64_or_nat _ _ (Nat.lt_of_le_of_lt (Nat.div_le_self _ _) (Nat.mod_lt _ (by decide))) (Nat.mod_lt _ (by decide))]
  congr 1
  apply Nat.eq_of_testBit_eq; intro i
  simp only [p64, Nat.testBit_or, Nat.testBit_mod_two_pow, Nat.testBit_div_two_pow, Nat.testBit_mul_two_pow]
  by_cases h : i < 64
  · by_cases h2 : i + k < 64
    · have : ¬ (64 - k ≤ i) := by omega
      simp [h, h2, this]
    · have h3 : 64 - k ≤ i := by omega
      have h4 : i - (64 - k) < 64 := by omega
      have h5 : i - (64 - k) + 64 = i + k := by omega
      simp [h, h2, h3, h4, h5]
  · have : ¬ (i + k < 64) := by omega
    simp [h, this]
set_option maxRecDepth 100000 in
theorem right_lo_big (a k : Nat) (hk : 64 ≤ k) (ha : a < 2 ^ 128) : hi a / 2 ^ min (k - 64) 64 = lo (a / 2 ^ k) := by
  unfold hi lo
  rw [show ((2 : Int) ^ min (k - 64) 64) = ((2 ^ min (k - 64) 64 : Nat) : Int) by simp, ← Int.natCast_ediv]
  congr 1
  apply Nat.eq_of_testBit_eq; intro i
  simp only [p64, Nat.testBit_mod_two_pow, Nat.testBit_div_two_pow]
  by_cases h : i + k < 128
  · have h1 : i < 64 := by omega
    have h2 : i + min (k - 64) 64 < 64 := by omega
    have h3 : i + min (k - 64) 64 + 64 = i + k := by omega
    simp [h1, h2, h3]
  · have e : a.testBit (i + k) = false := Nat.testBit_lt_two_pow (Nat.lt_of_lt_of_le ha (Nat.pow_le_pow_right (by decide) (by omega)))
    have h2 : ¬ (i + min (k - 64) 64 < 64) := by omega
    simp [h2, e]
set_option maxRecDepth 100000 in
theorem right_hi_big (a k : Nat) (hk : 64 ≤ k) (ha : a < 2 ^ 128) : (0 : Int) = hi (a / 2 ^ k) := by
  have : a / 2 ^ k < 2 ^ 64 := by
    rw [Nat.div_lt_iff_lt_mul (Nat.two_pow_pos k), ← Nat.pow_add]
    exact Nat.lt_of_lt_of_le ha (Nat.pow_le_pow_right (by decide) (by omega))
  unfold hi
  rw [Nat.div_eq_of_lt this]
  rfl

set_option maxRecDepth 100000 in
theorem left_lo_small (a k : Nat) : lo a * 2 ^ k % 18446744073709551616 = lo (a * 2 ^ k % 2 ^ 128) := by
  unfold lo
  rw [show ((2 : Int) ^ k) = ((2 ^ k : Nat) : Int) by simp, ← Int.natCast_mul, show (18446744073709551616 : Int) = ((18446744073709551616 : Nat) : Int) from rfl, ← Int.natCast_emod]
  congr 1
  apply Nat.eq_of_testBit_eq; intro i
  simp only [p64, Nat.testBit_mod_two_pow, Nat.testBit_mul_two_pow]
  by_cases h : i < 64
  · have : i < 128 := by omega
    have h3 : i - k < 64 := by omega
    simp [h, this, h3]
  · simp [h]
set_option maxRecDepth 100000 in
theorem left_hi_small (a k : Nat) (hk0 : 0 < k) (hk : k < 64) : bits .or .u64 (hi a * 2 ^ k % 18446744073709551616) (lo a / 2 ^ (64 - k)) = hi (a * 2 ^ k % 2 ^ 128) := by
  unfold hi lo
  rw [show ((2 : Int) ^ k) = ((2 ^ k : Nat) : Int) by simp, show ((2 : Int) ^ (64 - k)) = ((2 ^ (64 - k) : Nat) : Int) by simp, ← Int.natCast_ediv, ← Int.natCast_mul, show (18446744073709551616 : Int) = ((18446744073709551616 : Nat) : Int) from rfl, ← Int.natCast_emod]
  rw [u64_or_nat _ _ (Nat.mod_lt _ (by decide)) (Nat.lt_of_le_of_lt (Nat.div_le_self _ _) (Nat.mod_lt _ (by decide)))]
  congr 1
  apply Nat.eq_of_testBit_eq; intro i
  simp only [p64, Nat.testBit_or, Nat.testBit_mod_two_pow, Nat.testBit_div_two_pow, Nat.testBit_mul_two_pow]
  by_cases h : i < 64
  · have h0 : i + 64 < 128 := by omega
    have h6 : k ≤ i + 64 := by omega
    by_cases h2 : k ≤ i
    · have h3 : ¬ (i + (64 - k) < 64) := by omega
      have h4 : i - k < 64 := by omega
      have h5 : i - k + 64 = i + 64 - k := by omega
      simp [h, h0, h2, h3, h4, h5, h6]
    · have h5 : i + (64 - k) = i + 64 - k := by omega
      have h7 : i + 64 - k < 64 := by omega
      simp [h, h0, h2, h5, h6, h7]
  · have : ¬ (i + (64 - k) < 64) := by omega
    simp [h, this]
set_option maxRecDepth 100000 in
theorem left_hi_big (a k : Nat) (hk : 64 ≤ k) : lo a * 2 ^ min (k - 64) 64 % 18446744073709551616 = hi (a * 2 ^ k % 2 ^ 128) := by
  unfold hi lo
  rw [show ((2 : Int) ^ min (k - 64) 64) = ((2 ^ min (k - 64) 64 : Nat) : Int) by simp, ← Int.natCast_mul, show (18446744073709551616 : Int) = ((18446744073709551616 : Nat) : Int) from rfl, ← Int.natCast_emod]
  congr 1
  apply Nat.eq_of_testBit_eq; intro i
  simp only [p64, Nat.testBit_mod_two_pow, Nat.testBit_div_two_pow, Nat.testBit_mul_two_pow]
  by_cases h : i < 64
  · have h0 : i + 64 < 128 := by omega
    by_cases h2 : k ≤ i + 64
    · have h3 : min (k - 64) 64 ≤ i := by omega
      have h4 : i - min (k - 64) 64 < 64 := by omega
      have h5 : i - min (k - 64) 64 = i + 64 - k := by omega
      have h6 : i + 64 - k < 64 := by omega
      simp [h, h0, h2, h3, h5, h6]
    · have h3 : ¬ (min (k - 64) 64 ≤ i) := by omega
      simp [h, h2, h3]
  · simp [h]
set_option maxRecDepth 100000 in
theorem left_lo_big (a k : Nat) (hk : 64 ≤ k) : (0 : Int) = lo (a * 2 ^ k % 2 ^ 128) := by
  unfold lo
  symm
  rw [show (0 : Int) = ((0 : Nat) : Int) from rfl]
  congr 1
  apply Nat.eq_of_testBit_eq; intro i
  simp only [p64, Nat.testBit_mod_two_pow, Nat.testBit_mul_two_pow]
  by_cases h : i < 64
  · have h2 : ¬ (k ≤ i) := by omega
    simp [h2]
  · simp [h]
end Go.Proofs.YtldgjahpmlafgaaGreat
