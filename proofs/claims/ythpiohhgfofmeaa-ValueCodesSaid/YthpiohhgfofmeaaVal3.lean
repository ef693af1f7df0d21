/- Len, Fits, Bit and Compare of package value. -/
import Derived.Test.YthpiohhgfofmeaaVal2
namespace Go.Proofs.Ythpiohhgfofmeaa
open Go.RowKit

theorem lib_bitLen_aux : ∀ (f x : Nat), x < 2 ^ f → Lib.bitLenAux f x = bitLen x
  | 0, x, h => by
    have : x = 0 := by simpa using h
    subst this; rfl
  | f + 1, x, h => by
    unfold Lib.bitLenAux
    by_cases h0 : x = 0
    · subst h0; rfl
    · rw [if_neg h0, lib_bitLen_aux f (x / 2) (by omega)]
      by_cases h1 : x / 2 = 0
      · have : x = 1 := by omega
        subst this; decide
      · have := bitLen_shift x 1 (by simpa using h1)
        rw [this]
theorem lib_bitLen (x : Nat) (h : x < 2 ^ 64) : Lib.bitLen x = bitLen x := lib_bitLen_aux 64 x h
theorem len_hi (a : Nat) (ha : a < 2 ^ 128) (h : hi a ≠ 0) : (64 + (Lib.bitLen (hi a).toNat : Nat) : Nat) = bitLen a := by
  have e : (hi a).toNat = a / 2 ^ 64 := by unfold hi; omega
  have h' : a / 2 ^ 64 ≠ 0 := by intro e'; rw [e'] at e; have := hi_0 a; omega
  rw [e, lib_bitLen _ (by omega), bitLen_shift a 64 h']
theorem len_lo (a : Nat) (ha : a < 2 ^ 128) (h : hi a = 0) : Lib.bitLen (lo a).toNat = bitLen a := by
  have e : (lo a).toNat = a := by unfold hi at h; unfold lo; omega
  rw [e, lib_bitLen a (by unfold hi at h; omega)]
theorem len_le (a : Nat) (ha : a < 2 ^ 128) : bitLen a ≤ 128 := by
  unfold bitLen
  split
  · omega
  · rename_i h
    have := (Nat.log2_lt h).2 ha
    omega
theorem lib_len_le (x : Int) (h1 : x < 18446744073709551616) : Lib.bitLen x.toNat ≤ 64 := Lib.bitLen_le _ 64 (by decide) (by omega)

set_option maxHeartbeats 400000 in
theorem len_any (a : Nat) (ha : a < 2 ^ 128) (w : World) :
    Calls Try.prog 35 #[.agg #[.int .u64 (hi a), .int .u64 (lo a)]] w (RetX (.int .i64 (bitLen a)) w) := by
  have a0 := hi_0 a; have a1 := hi_1 a; have b0 := lo_0 a; have b1 := lo_1 a
  by_cases h : hi a = 0
  · have H := Lib.hid (len_lo a ha h)
    have t1 : (hi a != 0) = false := by simp [h]
    have l := lib_len_le (lo a) b1
    clear h ha
    go_enter Try.func35, Try.ntmps35
    go_wp2_with (go_at_call 51; refine (len64_any _ _ b0 (by omega)).mono ?_; rintro e w' ⟨rfl, rfl⟩)
    go_ret
    rw [H.out]
    exact ⟨rfl, (Below.refl _ _).alloc (by simp) _⟩
  · have H := Lib.hid (len_hi a ha h)
    have t1 : (hi a != 0) = true := by simp [h]
    have l := lib_len_le (hi a) a1
    clear h ha
    go_enter Try.func35, Try.ntmps35
    go_wp2_with (go_at_call 51; refine (len64_any _ _ a0 (by omega)).mono ?_; rintro e w' ⟨rfl, rfl⟩)
    go_ret
    rw [← H.out]
    exact ⟨by simp, (Below.refl _ _).alloc (by simp) _⟩

set_option maxHeartbeats 400000 in
theorem fits_any (a : Nat) (n : Int) (ha : a < 2 ^ 128) (w : World) :
    Calls Try.prog 33 #[.agg #[.int .u64 (hi a), .int .u64 (lo a)], .int .i64 n] w (RetX (.bool (decide ((bitLen a : Int) ≤ n))) w) := by
  go_enter Try.func33, Try.ntmps33
  go_wp2_with (go_at_call 35; refine (len_any a ha _).mono ?_; rintro e w' ⟨rfl, hb⟩)
  go_ret
  exact ⟨by simp, Below.trans ((Below.refl _ _).alloc (by simp) _) (hb.mono (by simp))⟩

def cmp (a b : Nat) : Int := if a = b then 0 else if a < b then -1 else 1
set_option maxHeartbeats 1000000 in
theorem compare_any (a b : Nat) (ha : a < 2 ^ 128) (hb : b < 2 ^ 128) (w : World) :
    Calls Try.prog 37 #[.agg #[.int .u64 (hi a), .int .u64 (lo a)], .agg #[.int .u64 (hi b), .int .u64 (lo b)]] w (RetX (.int .i64 (cmp a b)) w) := by
  by_cases h1 : a = b
  · subst h1
    have e : cmp a a = 0 := by simp [cmp]
    rw [e]; clear e ha hb
    go_enter Try.func37, Try.ntmps37
    go_wp2
    go_ret
    exact ⟨rfl, ((Below.refl _ _).alloc (by simp) _).alloc (by simp) _⟩
  · by_cases h2 : hi a < hi b
    · have e : cmp a b = -1 := by unfold cmp; rw [if_neg h1, if_pos (by unfold hi at h2; omega)]
      have t1 : (hi a == hi b) = false := by simp; omega
      rw [e]; clear e ha hb h1
      go_enter Try.func37, Try.ntmps37
      go_wp2
      go_ret
      exact ⟨rfl, ((Below.refl _ _).alloc (by simp) _).alloc (by simp) _⟩
    · by_cases h3 : hi a = hi b
      · have h4 : lo a ≠ lo b := fun e => h1 (hi_inj ha hb h3 e)
        by_cases h5 : lo a < lo b
        · have e : cmp a b = -1 := by unfold cmp; rw [if_neg h1, if_pos (by unfold hi at h3; unfold lo at h5; omega)]
          have t2 : (lo a == lo b) = false := by simp; omega
          rw [e]; clear e ha hb h1 h2
          rw [h3]; clear h3
          go_enter Try.func37, Try.ntmps37
          go_wp2
          go_ret
          exact ⟨rfl, ((Below.refl _ _).alloc (by simp) _).alloc (by simp) _⟩
        · have e : cmp a b = 1 := by unfold cmp; rw [if_neg h1, if_neg (by unfold hi at h3; unfold lo at h5 h4; omega)]
          have t2 : (lo a == lo b) = false := by simp; omega
          have t3 : decide (lo a < lo b) = false := by simp; omega
          rw [e]; clear e ha hb h1 h2
          rw [h3]; clear h3
          go_enter Try.func37, Try.ntmps37
          go_wp2
          go_ret
          exact ⟨rfl, ((Below.refl _ _).alloc (by simp) _).alloc (by simp) _⟩
      · have e : cmp a b = 1 := by unfold cmp; rw [if_neg h1, if_neg (by unfold hi at h2 h3; omega)]
        have t1 : (hi a == hi b) = false := by simp; omega
        have t3 : decide (hi a < hi b) = false := by simp; omega
        rw [e]; clear e ha hb h1
        go_enter Try.func37, Try.ntmps37
        go_wp2
        go_ret
        exact ⟨rfl, ((Below.refl _ _).alloc (by simp) _).alloc (by simp) _⟩

theorem run_field_lo (x y : Int) (w : World) : (Instr.field 24 (.agg #[.int .u64 x, .int .u64 y]) 1).run Try.prog w = .ok (.int .u64 y) w := by
  first | rfl | kernel_rfl
theorem bit_one (a i : Nat) : (bits .and .u64 (lo (a / 2 ^ i)) 1 == 1) = a.testBit i := by
  have h : (1 : Int) = lo 1 := rfl
  rw [h, and_lo]
  unfold lo
  rw [Nat.and_one_is_mod]
  rw [Bool.eq_iff_iff, Nat.testBit_eq_decide_div_mod_eq]
  simp only [beq_iff_eq, decide_eq_true_eq]
  omega
theorem bit_neg (n : Int) (h : n < 0) (a : Nat) : (decide (0 ≤ n) && a.testBit n.toNat) = false := by
  simp; omega
set_option maxHeartbeats 1000000 in
theorem bit_any (a : Nat) (n : Int) (ha : a < 2 ^ 128) (hn : n ≤ 9223372036854775807) (w : World) :
    Calls Try.prog 31 #[.agg #[.int .u64 (hi a), .int .u64 (lo a)], .int .i64 n] w (RetX (.bool (decide (0 ≤ n) && a.testBit n.toNat)) w) := by
  by_cases h : n < 0
  · rw [bit_neg n h a]
    have t1 : decide (0 ≤ n) = false := by simp; omega
    clear ha
    go_enter Try.func31, Try.ntmps31
    go_wp2
    go_ret
    exact ⟨rfl, (Below.refl _ _).alloc (by simp) _⟩
  · have t1 : decide (0 ≤ n) = true := by simp; omega
    have H := Lib.hid (bit_one a n.toNat)
    have H1 := Lib.hid t1
    have h' : 0 ≤ n := by omega
    clear t1 h
    go_enter Try.func31, Try.ntmps31
    go_wp2_with (first | (go_at_call 29; refine (right_any a n ha hn _).mono ?_; rintro e w' ⟨rfl, hb⟩) | simp only [run_field_lo])
    go_ret
    rw [H1.out, ← H.out]
    exact ⟨by simp, Below.trans ((Below.refl _ _).alloc (by simp) _) (hb.mono (by simp))⟩
end Go.Proofs.Ythpiohhgfofmeaa
