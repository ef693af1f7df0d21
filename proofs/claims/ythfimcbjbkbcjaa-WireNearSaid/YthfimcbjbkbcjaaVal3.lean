/- Len, Fits, Bit and Compare of package value. -/
import Derived.Test.YthfimcbjbkbcjaaVal2
namespace Go.Proofs.Ythfimcbjbkbcjaa
open Go.RowKit

theorem lib_bitLen_aux : ∀ (f x : Nat), x < 2 ^ f → Lib.bitLenAux f x = bitLen x
  | 0, x, h => by
    have : x = 0 := by simpa using h
    subst this; rfl
  | f + 1, x, h => by
    unfold Lib.bitLenAux
    by_cases h0 : x = 0
    · subst h0; rfl
    · rw [if_neg h0, lib_bitLen_aux f (x / 2) (by omega)]
      by_cases h1 : x / 2 = 0
      · have : x = 1 := by omega
        subst this; decide
      · have := bitLen_shift x 1 (by simpa using h1)
        rw [this]
theorem lib_bitLen (x : Nat) (h : x < 2 ^ 64) : Lib.bitLen x = bitLen x := lib_bitLen_aux 64 x h
theorem len_hi (a : Nat) (ha : a < 2 ^ 128) (h : hi a ≠ 0) : (64 + (Lib.bitLen (hi a).toNat : Nat) : Nat) = bitLen a := by
  have e : (hi a).toNat = a / 2 ^ 64 := by unfold hi; omega
  have h' : a / 2 ^ 64 ≠ 0 := by intro e'; rw [e'] at e; have := hi_0 a; omega
  rw [e, lib_bitLen _ (by omega), bitLen_shift a 64 h']
theorem len_lo (a : Nat) (ha : a < 2 ^ 128) (h : hi a = 0) : Lib.bitLen (lo a).toNat = bitLen a := by
  have e : (lo a).toNat = a := by unfold hi at h; unfold lo; omega
  rw [e, lib_bitLen a (by unfold hi at h; omega)]
theorem len_le (a : Nat) (ha : a < 2 ^ 128) : bitLen a ≤ 128 := by
  unfold bitLen
  split
  · omega
  · rename_i h
    have := (Nat.log2_lt h).2 ha
    omega
theorem lib_len_le (x : Int) (h1 : x < 18446744073709551616) : Lib.bitLen x.toNat ≤ 64 := Lib.bitLen_le _ 64 (by decide) (by omega)

set_option maxHeartbeats 400000 in
theorem len_any (a : Nat) (ha : a < 2 ^ 128) (w : World) :
    Calls Try.prog 68 #[.agg #[.int .u64 (hi a), .int .u64 (lo a)]] w (RetX (.int .i64 (bitLen a)) w) := by
  have a0 := hi_0 a; have a1 := hi_1 a; have b0 := lo_0 a; have b1 := lo_1 a
  by_cases h : hi a = 0
  · have H := Lib.hid (len_lo a ha h)
    have t1 : (hi a != 0) = false := by simp [h]
    have l := lib_len_le (lo a) b1
    clear h ha
    go_enter Try.func68, Try.ntmps68
    go_wp2_with (go_at_call 75; refine (len64_any _ _ b0 (by omega)).mono ?_; rintro e w' ⟨rfl, rfl⟩)
    go_ret
    rw [H.out]
    exact ⟨rfl, (Below.refl _ _).alloc (by simp) _⟩
  · have H := Lib.hid (len_hi a ha h)
    have t1 : (hi a != 0) = true := by simp [h]
    have l := lib_len_le (hi a) a1
    clear h ha
    go_enter Try.func68, Try.ntmps68
    go_wp2_with (go_at_call 75; refine (len64_any _ _ a0 (by omega)).mono ?_; rintro e w' ⟨rfl, rfl⟩)
    go_ret
    rw [← H.out]
    exact ⟨by simp, (Below.refl _ _).alloc (by simp) _⟩

def cmp (a b : Nat) : Int := if a = b then 0 else if a < b then -1 else 1
theorem run_field_lo (x y : Int) (w : World) : (Instr.field 26 (.agg #[.int .u64 x, .int .u64 y]) 1).run Try.prog w = .ok (.int .u64 y) w := by
  first | rfl | kernel_rfl
theorem bit_one (a i : Nat) : (bits .and .u64 (lo (a / 2 ^ i)) 1 == 1) = a.testBit i := by
  have h : (1 : Int) = lo 1 := rfl
  rw [h, and_lo]
  unfold lo
  rw [Nat.and_one_is_mod]
  rw [Bool.eq_iff_iff, Nat.testBit_eq_decide_div_mod_eq]
  simp only [beq_iff_eq, decide_eq_true_eq]
  omega
theorem bit_neg (n : Int) (h : n < 0) (a : Nat) : (decide (0 ≤ n) && a.testBit n.toNat) = false := by
  simp; omega
end Go.Proofs.Ythfimcbjbkbcjaa
