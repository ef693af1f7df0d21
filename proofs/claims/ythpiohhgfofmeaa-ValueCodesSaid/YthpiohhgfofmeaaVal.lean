/- The calls of package value: what each returns. -/
import Derived.Test.YthpiohhgfofmeaaPure
import Derived.Laws.Externs
import Derived.Lib.Hide
namespace Go.Proofs.Ythpiohhgfofmeaa
open Go.RowKit

set_option maxHeartbeats 400000 in
theorem and_any (a b : Nat) (w : World) :
    Calls Try.prog 16 #[.agg #[.int .u64 (hi a), .int .u64 (lo a)], .agg #[.int .u64 (hi b), .int .u64 (lo b)]] w (RetV (a &&& b) w) := by
  go_enter Try.func16, Try.ntmps16
  go_wp2
  refine bodyPost_ret (v := .agg #[.int .u64 (hi (a &&& b)), .int .u64 (lo (a &&& b))]) (by simp [results, Try.results16, go_sem, and_hi, and_lo]) rfl ⟨rfl, ?_⟩
  exact (((Below.refl _ _).alloc (by simp) _).alloc (by simp) _).alloc (by simp; omega) _

set_option maxHeartbeats 400000 in
theorem or_any (a b : Nat) (w : World) :
    Calls Try.prog 18 #[.agg #[.int .u64 (hi a), .int .u64 (lo a)], .agg #[.int .u64 (hi b), .int .u64 (lo b)]] w (RetV (a ||| b) w) := by
  go_enter Try.func18, Try.ntmps18
  go_wp2
  refine bodyPost_ret (v := .agg #[.int .u64 (hi (a ||| b)), .int .u64 (lo (a ||| b))]) (by simp [results, Try.results18, go_sem, or_hi, or_lo]) rfl ⟨rfl, ?_⟩
  exact (((Below.refl _ _).alloc (by simp) _).alloc (by simp) _).alloc (by simp; omega) _

set_option maxHeartbeats 400000 in
theorem xor_any (a b : Nat) (w : World) :
    Calls Try.prog 20 #[.agg #[.int .u64 (hi a), .int .u64 (lo a)], .agg #[.int .u64 (hi b), .int .u64 (lo b)]] w (RetV (a ^^^ b) w) := by
  go_enter Try.func20, Try.ntmps20
  go_wp2
  refine bodyPost_ret (v := .agg #[.int .u64 (hi (a ^^^ b)), .int .u64 (lo (a ^^^ b))]) (by simp [results, Try.results20, go_sem, xor_hi, xor_lo]) rfl ⟨rfl, ?_⟩
  exact (((Below.refl _ _).alloc (by simp) _).alloc (by simp) _).alloc (by simp; omega) _

set_option maxHeartbeats 400000 in
theorem of_any (n : Nat) (hn : n < 18446744073709551616) (w : World) :
    Calls Try.prog 39 #[.int .u64 n] w (RetV n w) := by
  have e1 : hi n = 0 := by unfold hi; omega
  have e2 : lo n = n := by unfold lo; omega
  have H1 := Lib.hid e1
  have H2 := Lib.hid e2
  clear e1 e2 hn
  go_enter Try.func39, Try.ntmps39
  go_wp2
  refine bodyPost_ret (v := .agg #[.int .u64 (hi n), .int .u64 (lo n)]) (by simp [results, Try.results39, go_sem, H1.out, H2.out]) rfl ⟨rfl, ?_⟩
  exact (Below.refl _ _).alloc (by simp) _

theorem clamp_one (n m r : Int) (h : r = min (max n 0) m) (w : World) : (RetX (.int .i64 r) w) = (RetX (.int .i64 (min (max n 0) m)) w) := by rw [h]
set_option maxHeartbeats 400000 in
theorem clamp_any (n m : Int) (hm : 0 ≤ m) (w : World) :
    Calls Try.prog 44 #[.int .i64 n, .int .i64 m] w fun e w' => e = .returned (.int .i64 (min (max n 0) m)) ∧ w = w' := by
  by_cases h1 : n < 0
  · have e : min (max n 0) m = 0 := by omega
    rw [e]; clear e
    go_enter Try.func44, Try.ntmps44
    go_wp2
    go_ret
    exact ⟨rfl, rfl⟩
  · by_cases h2 : n ≤ m
    · have e : min (max n 0) m = n := by omega
      rw [e]; clear e
      go_enter Try.func44, Try.ntmps44
      go_wp2
      go_ret
      exact ⟨rfl, rfl⟩
    · have e : min (max n 0) m = m := by omega
      rw [e]; clear e
      go_enter Try.func44, Try.ntmps44
      go_wp2
      go_ret
      exact ⟨rfl, rfl⟩

theorem add64 (x y c : Int) (hx : 0 ≤ x) (hy : 0 ≤ y) (hc0 : 0 ≤ c) (hc : c ≤ 1) (w : World) : (callFunc 53 #[.int .u64 x, .int .u64 y, .int .u64 c]).run Try.prog w =
    .ok (.value (.tuple #[.int .u64 ((x + y + c) % 18446744073709551616), .int .u64 ((x + y + c) / 18446744073709551616)])) w := by
  obtain ⟨x, rfl⟩ := Int.eq_ofNat_of_zero_le hx
  obtain ⟨y, rfl⟩ := Int.eq_ofNat_of_zero_le hy
  obtain ⟨c, rfl⟩ := Int.eq_ofNat_of_zero_le hc0
  rw [run_callFunc_extern Try.func53 (by kernel_rfl) (by kernel_rfl) (by kernel_rfl) (e := add64Entry) (by kernel_rfl), run_add64 x y c (by omega) (by omega) (by omega) (by omega)]
  simp only [Result.andThen]
theorem add64_0 (x y : Int) (hx : 0 ≤ x) (hy : 0 ≤ y) (w : World) : (callFunc 53 #[.int .u64 x, .int .u64 y, .int .u64 0]).run Try.prog w =
    .ok (.value (.tuple #[.int .u64 ((x + y) % 18446744073709551616), .int .u64 ((x + y) / 18446744073709551616)])) w := by
  simpa using add64 x y 0 hx hy (Int.le_refl 0) (by decide) w

/-- The model's row for math/bits.Sub64. -/
def subEntry : Array Value → Sem Value := fun args => do
  let (x, y, b) ← Extern.MathBitsCarry.three "Sub64" args
  pure (Extern.MathBitsCarry.pair ((x + Extern.MathBitsCarry.m64 - y - b) % Extern.MathBitsCarry.m64) (if x < y + b then 1 else 0))
def bor (x y : Int) : Int := if x < y then 1 else 0
theorem bor_0 (x y : Int) : 0 ≤ bor x y := by unfold bor; split <;> decide
theorem bor_1 (x y : Int) : bor x y ≤ 1 := by unfold bor; split <;> decide
theorem sub64 (x y b : Int) (hx : 0 ≤ x) (hy : 0 ≤ y) (hy' : y < 18446744073709551616) (hb0 : 0 ≤ b) (hb : b ≤ 1) (w : World) : (callFunc 54 #[.int .u64 x, .int .u64 y, .int .u64 b]).run Try.prog w =
    .ok (.value (.tuple #[.int .u64 ((x - y - b) % 18446744073709551616), .int .u64 (bor x (y + b))])) w := by
  obtain ⟨x, rfl⟩ := Int.eq_ofNat_of_zero_le hx
  obtain ⟨y, rfl⟩ := Int.eq_ofNat_of_zero_le hy
  obtain ⟨b, rfl⟩ := Int.eq_ofNat_of_zero_le hb0
  have e1 : ((x : Int) - y - b) % 18446744073709551616 = (((x + 18446744073709551616 - y - b) % 18446744073709551616 : Nat) : Int) := by omega
  have e2 : bor (x : Int) (y + b) = ((if x < y + b then 1 else 0 : Nat) : Int) := by unfold bor; split <;> split <;> omega
  rw [e1, e2]
  rw [run_callFunc_extern Try.func54 (by kernel_rfl) (by kernel_rfl) (by kernel_rfl) (e := subEntry) (by kernel_rfl)]
  have : b = 0 ∨ b = 1 := by omega
  rcases this with rfl | rfl <;> rfl
theorem sub64_0 (x y : Int) (hx : 0 ≤ x) (hy : 0 ≤ y) (hy' : y < 18446744073709551616) (w : World) : (callFunc 54 #[.int .u64 x, .int .u64 y, .int .u64 0]).run Try.prog w =
    .ok (.value (.tuple #[.int .u64 ((x - y) % 18446744073709551616), .int .u64 (bor x y)])) w := by
  simpa using sub64 x y 0 hx hy hy' (Int.le_refl 0) (by decide) w

theorem sum_lo (a b : Nat) : (lo a + lo b) % 18446744073709551616 = lo (vsum a b) := by unfold lo vsum; omega
theorem sum_hi (a b : Nat) : (hi a + hi b + (lo a + lo b) / 18446744073709551616) % 18446744073709551616 = hi (vsum a b) := by unfold lo hi vsum; omega
theorem dif_lo (a b : Nat) (_ha : a < 2 ^ 128) (_hb : b < 2 ^ 128) : (lo a - lo b) % 18446744073709551616 = lo (vdif a b) := by unfold lo vdif; omega
theorem dif_hi (a b : Nat) (_ha : a < 2 ^ 128) (_hb : b < 2 ^ 128) : (hi a - hi b - bor (lo a) (lo b)) % 18446744073709551616 = hi (vdif a b) := by unfold lo hi bor vdif; split <;> omega

set_option maxHeartbeats 400000 in
theorem sum_any (a b : Nat) (w : World) :
    Calls Try.prog 48 #[.agg #[.int .u64 (hi a), .int .u64 (lo a)], .agg #[.int .u64 (hi b), .int .u64 (lo b)]] w (RetV (vsum a b) w) := by
  have a1 := hi_0 a; have b1 := hi_0 b; have c1 := lo_0 a; have d1 := lo_0 b; have c2 := lo_1 a; have d2 := lo_1 b
  have k0 : 0 ≤ (lo a + lo b) / 18446744073709551616 := by omega
  have k1 : (lo a + lo b) / 18446744073709551616 ≤ 1 := by omega
  go_enter Try.func48, Try.ntmps48
  go_wp2_with (first | simp only [add64_0 (lo a) (lo b) c1 d1] | simp only [add64 (hi a) (hi b) _ a1 b1 k0 k1])
  refine bodyPost_ret (v := .agg #[.int .u64 (hi (vsum a b)), .int .u64 (lo (vsum a b))]) ?_ rfl ⟨rfl, ?_⟩
  · rw [← sum_lo, ← sum_hi]; simp [results, Try.results48, go_sem]
  exact (((Below.refl _ _).alloc (by simp) _).alloc (by simp) _).alloc (by simp; omega) _

set_option maxHeartbeats 400000 in
theorem difference_any (a b : Nat) (ha : a < 2 ^ 128) (hb : b < 2 ^ 128) (w : World) :
    Calls Try.prog 50 #[.agg #[.int .u64 (hi a), .int .u64 (lo a)], .agg #[.int .u64 (hi b), .int .u64 (lo b)]] w (RetV (vdif a b) w) := by
  have a1 := hi_0 a; have b1 := hi_0 b; have c1 := lo_0 a; have d1 := lo_0 b; have c2 := lo_1 a; have d2 := lo_1 b; have b2 := hi_1 b
  have k0 := bor_0 (lo a) (lo b); have k1 := bor_1 (lo a) (lo b)
  have H1 := Lib.hid (dif_lo a b ha hb)
  have H2 := Lib.hid (dif_hi a b ha hb)
  clear ha hb
  go_enter Try.func50, Try.ntmps50
  go_wp2_with (first | simp only [sub64_0 (lo a) (lo b) c1 d1 d2] | simp only [sub64 (hi a) (hi b) _ a1 b1 b2 k0 k1])
  refine bodyPost_ret (v := .agg #[.int .u64 (hi (vdif a b)), .int .u64 (lo (vdif a b))]) ?_ rfl ⟨rfl, ?_⟩
  · rw [← H1.out, ← H2.out]; simp [results, Try.results50, go_sem]
  exact (((Below.refl _ _).alloc (by simp) _).alloc (by simp) _).alloc (by simp; omega) _
end Go.Proofs.Ythpiohhgfofmeaa
