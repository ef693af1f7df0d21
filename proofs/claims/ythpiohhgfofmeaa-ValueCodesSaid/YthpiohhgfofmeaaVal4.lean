/- Ones, Leading, Not, Add and Sub of package value. -/
import Derived.Test.YthpiohhgfofmeaaVal3
namespace Go.Proofs.Ythpiohhgfofmeaa
open Go.RowKit

theorem hi_max : hi (2 ^ 128 - 1) = 18446744073709551615 := by decide
theorem lo_max : lo (2 ^ 128 - 1) = 18446744073709551615 := by decide
theorem ones_eq (k : Int) : (2 ^ 128 - 1) / 2 ^ (128 - min (max k 0) 128).toNat = 2 ^ cl k - 1 := by
  have h : (128 - min (max k 0) 128).toNat = 128 - cl k := by unfold cl; omega
  have hc := cl_le k
  rw [h]
  generalize cl k = c at hc ⊢
  apply Nat.eq_of_testBit_eq; intro i
  rw [Nat.testBit_div_two_pow, Nat.testBit_two_pow_sub_one, Nat.testBit_two_pow_sub_one]
  simp; omega
/-- That many ones. -/
def ones (k : Int) : Nat := 2 ^ cl k - 1
theorem right_max (k : Int) (w : World) :
    Calls Try.prog 29 #[.agg #[.int .u64 18446744073709551615, .int .u64 18446744073709551615], .int .i64 (128 - min (max k 0) 128)] w (RetV (ones k) w) := by
  have h := right_any (2 ^ 128 - 1) (128 - min (max k 0) 128) (by decide) (by omega) w
  rw [hi_max, lo_max, ones_eq] at h
  exact h
theorem clamp_0 (k : Int) : 0 ≤ min (max k 0) 128 := by omega
theorem clamp_1 (k : Int) : min (max k 0) 128 ≤ 128 := by omega

set_option maxHeartbeats 1000000 in
theorem ones_any (k : Int) (w : World) :
    Calls Try.prog 10 #[.int .i64 k] w (RetV (ones k) w) := by
  have k0 := clamp_0 k
  have k1 := clamp_1 k
  have s1 : IntKind.i64.wrap (128 - min (max k 0) 128) = 128 - min (max k 0) 128 := IntWalk.i64_in _ (by omega)
  go_enter Try.func10, Try.ntmps10
  go_wp2
  go_region_held3 (fun w' => w'.cell? ⟨w.heap.size + 1, 0, none⟩ = some (.int .u64 18446744073709551615) ∧ w'.cell? ⟨w.heap.size + 1, 1, none⟩ = some (.int .u64 18446744073709551615)) (simp [go_sem, *])
    (first
      | (go_at_call 44; refine (clamp_any k 128 (by omega) _).mono ?_; rintro e w' ⟨rfl, rfl⟩)
      | (go_at_call 29; refine (right_max k _).mono ?_; rintro e w' ⟨rfl, hb⟩; obtain ⟨hc, hf, hz⟩ := after (w.heap.size + 2) hb (by simp) (by simp)))
  go_wp2
  refine bodyPost_ret (v := .agg #[.int .u64 (hi (ones k)), .int .u64 (lo (ones k))]) (by simp [results, Try.results10, go_sem, hc]) rfl ⟨rfl, ?_⟩
  exact Below.setCell (Below.setCell (((((Below.refl _ _).alloc (by simp) _).alloc (by simp) _).drew).trans (hb.mono (by simp; omega))) (by simp) _) (by simp) _

set_option maxHeartbeats 1000000 in
theorem not_any (a : Nat) (k : Int) (w : World) :
    Calls Try.prog 12 #[.agg #[.int .u64 (hi a), .int .u64 (lo a)], .int .i64 k] w (RetV (ones k &&& compl a) w) := by
  go_enter Try.func12, Try.ntmps12
  go_wp2_with (go_at_call 10; refine (ones_any k _).mono ?_; rintro e w' ⟨rfl, hb⟩; obtain ⟨hc, hf, hz⟩ := after (w.heap.size + 2) hb (by simp) (by simp))
  refine bodyPost_ret (v := .agg #[.int .u64 (hi (ones k &&& compl a)), .int .u64 (lo (ones k &&& compl a))]) (by simp [results, Try.results12, go_sem, hc, hz, andNot_hi, andNot_lo]) rfl ⟨rfl, ?_⟩
  have h1 := hz (w.heap.size + 1) (by omega)
  exact Below.alloc (Below.setCell (Below.setCell ((((Below.refl _ _).alloc (by simp) _).alloc (by simp) _).trans (hb.mono (by simp; omega))) (by simp) _) (by simp) _) (by simp; omega) _

set_option maxHeartbeats 1000000 in
theorem add_any (a b : Nat) (k : Int) (w : World) :
    Calls Try.prog 23 #[.agg #[.int .u64 (hi a), .int .u64 (lo a)], .agg #[.int .u64 (hi b), .int .u64 (lo b)], .int .i64 k] w (RetV (vsum a b &&& ones k) w) := by
  go_enter Try.func23, Try.ntmps23
  go_wp2_with (first
    | (go_at_call 48; refine (sum_any a b _).mono ?_; rintro e w1 ⟨rfl, hb1⟩; obtain ⟨hc1, hf1, hz1⟩ := after (w.heap.size + 3) hb1 (by simp) (by simp))
    | (go_at_call 10; refine (ones_any k _).mono ?_; rintro e w2 ⟨rfl, hb2⟩; obtain ⟨hc2, hf2, hz2⟩ := after (w.heap.size + 3) hb2 (hz1 (w.heap.size + 2) (by omega)) (hz1 (w.heap.size + 2) (by omega)))
    | (go_at_call 16; refine (and_any _ _ _).mono ?_; rintro e w3 ⟨rfl, hb3⟩; obtain ⟨hc3, hf3, hz3⟩ := after (w.heap.size + 3) hb3 (hz2 (w.heap.size + 2) (by omega)) (hz2 (w.heap.size + 2) (by omega))))
  have h1 := hz1 (w.heap.size + 2) (by omega)
  have h2 := hz2 (w.heap.size + 2) (by omega)
  refine bodyPost_ret (v := .agg #[.int .u64 (hi (vsum a b &&& ones k)), .int .u64 (lo (vsum a b &&& ones k))]) (by simp [results, Try.results23, go_sem, hc1, hc2, hc3]) rfl ⟨rfl, ?_⟩
  exact Below.setCell (Below.setCell ((((((Below.refl _ _).alloc (by simp) _).alloc (by simp) _).alloc (by simp; omega) _).trans (hb1.mono (by simp; omega))).trans ((hb2.mono (by omega)).trans (hb3.mono (by omega)))) (by simp; omega) _) (by simp; omega) _

set_option maxHeartbeats 1000000 in
theorem sub_any (a b : Nat) (k : Int) (ha : a < 2 ^ 128) (hb : b < 2 ^ 128) (w : World) :
    Calls Try.prog 25 #[.agg #[.int .u64 (hi a), .int .u64 (lo a)], .agg #[.int .u64 (hi b), .int .u64 (lo b)], .int .i64 k] w (RetV (vdif a b &&& ones k) w) := by
  go_enter Try.func25, Try.ntmps25
  go_wp2_with (first
    | (go_at_call 50; refine (difference_any a b ha hb _).mono ?_; rintro e w1 ⟨rfl, hb1⟩; obtain ⟨hc1, hf1, hz1⟩ := after (w.heap.size + 3) hb1 (by simp) (by simp))
    | (go_at_call 10; refine (ones_any k _).mono ?_; rintro e w2 ⟨rfl, hb2⟩; obtain ⟨hc2, hf2, hz2⟩ := after (w.heap.size + 3) hb2 (hz1 (w.heap.size + 2) (by omega)) (hz1 (w.heap.size + 2) (by omega)))
    | (go_at_call 16; refine (and_any _ _ _).mono ?_; rintro e w3 ⟨rfl, hb3⟩; obtain ⟨hc3, hf3, hz3⟩ := after (w.heap.size + 3) hb3 (hz2 (w.heap.size + 2) (by omega)) (hz2 (w.heap.size + 2) (by omega))))
  have h1 := hz1 (w.heap.size + 2) (by omega)
  have h2 := hz2 (w.heap.size + 2) (by omega)
  refine bodyPost_ret (v := .agg #[.int .u64 (hi (vdif a b &&& ones k)), .int .u64 (lo (vdif a b &&& ones k))]) (by simp [results, Try.results25, go_sem, hc1, hc2, hc3]) rfl ⟨rfl, ?_⟩
  exact Below.setCell (Below.setCell ((((((Below.refl _ _).alloc (by simp) _).alloc (by simp) _).alloc (by simp; omega) _).trans (hb1.mono (by simp; omega))).trans ((hb2.mono (by omega)).trans (hb3.mono (by omega)))) (by simp; omega) _) (by simp; omega) _

/-- The value of that many bits whose n highest are 1. -/
def lead (k n : Int) : Nat := ones (min (max k 0) 128) ^^^ ones (min (max k 0) 128 - min (max n 0) (min (max k 0) 128))
theorem clamp_2 (n m : Int) (h : 0 ≤ m) : 0 ≤ min (max n 0) m := by omega
theorem clamp_3 (n m : Int) : min (max n 0) m ≤ m := by omega
set_option maxHeartbeats 1000000 in
theorem leading_any (k n : Int) (w : World) :
    Calls Try.prog 14 #[.int .i64 k, .int .i64 n] w (RetV (lead k n) w) := by
  unfold lead
  have k0 := clamp_0 k
  have k1 := clamp_1 k
  have k2 := clamp_2 n (min (max k 0) 128) k0
  have k3 := clamp_3 n (min (max k 0) 128)
  generalize hk : min (max k 0) 128 = c at k0 k1 k2 k3 ⊢
  generalize hm : min (max n 0) c = m at k2 k3 ⊢
  have Hk := Lib.hid hk
  have Hm := Lib.hid hm
  clear hk hm
  go_enter Try.func14, Try.ntmps14
  go_wp2_with fail
  go_at_call 44; refine (clamp_any k 128 (by omega) _).mono ?_; rintro e w' ⟨rfl, rfl⟩
  rw [Hk.out]
  go_wp2_with fail
  go_at_call 44; refine (clamp_any n c k0 _).mono ?_; rintro e w' ⟨rfl, rfl⟩
  rw [Hm.out]
  go_wp2_with fail
  go_at_call 10; refine (ones_any c _).mono ?_; rintro e w1 ⟨rfl, hb1⟩; obtain ⟨hc1, hf1, hz1⟩ := after (w.heap.size + 1) hb1 (by simp) (by simp)
  go_wp2_with fail
  go_at_call 10; refine (ones_any (c - m) _).mono ?_; rintro e w2 ⟨rfl, hb2⟩; obtain ⟨hc2, hf2, hz2⟩ := after (w.heap.size + 1) hb2 (hz1 w.heap.size (by omega)) (hz1 w.heap.size (by omega))
  go_wp2_with fail
  go_at_call 20; refine (xor_any _ _ _).mono ?_; rintro e w3 ⟨rfl, hb3⟩; obtain ⟨hc3, hf3, hz3⟩ := after (w.heap.size + 1) hb3 (hz2 w.heap.size (by omega)) (hz2 w.heap.size (by omega))
  go_wp2
  have h1 := hz1 w.heap.size (by omega)
  have h2 := hz2 w.heap.size (by omega)
  refine bodyPost_ret (v := .agg #[.int .u64 (hi (ones c ^^^ ones (c - m))), .int .u64 (lo (ones c ^^^ ones (c - m)))]) (by simp [results, Try.results14, go_sem, hc1, hc2, hc3]) rfl ⟨rfl, ?_⟩
  exact Below.setCell (Below.setCell ((((Below.refl _ _).alloc (by simp) _).trans (hb1.mono (by simp))).trans ((hb2.mono (by omega)).trans (hb3.mono (by omega)))) (by simp) _) (by simp) _
end Go.Proofs.Ythpiohhgfofmeaa
