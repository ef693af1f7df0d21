/- The calls of package value: what each returns. -/
import Derived.Test.YthfimcbjbkbcjaaPure
import Derived.Laws.Externs
import Derived.Lib.Hide
namespace Go.Proofs.Ythfimcbjbkbcjaa
open Go.RowKit

set_option maxHeartbeats 400000 in
theorem or_any (a b : Nat) (w : World) :
    Calls Try.prog 71 #[.agg #[.int .u64 (hi a), .int .u64 (lo a)], .agg #[.int .u64 (hi b), .int .u64 (lo b)]] w (RetV (a ||| b) w) := by
  go_enter Try.func71, Try.ntmps71
  go_wp2
  refine bodyPost_ret (v := .agg #[.int .u64 (hi (a ||| b)), .int .u64 (lo (a ||| b))]) (by simp [results, Try.results71, go_sem, or_hi, or_lo]) rfl ⟨rfl, ?_⟩
  exact (((Below.refl _ _).alloc (by simp) _).alloc (by simp) _).alloc (by simp; omega) _

set_option maxHeartbeats 400000 in
theorem of_any (n : Nat) (hn : n < 18446744073709551616) (w : World) :
    Calls Try.prog 73 #[.int .u64 n] w (RetV n w) := by
  have e1 : hi n = 0 := by unfold hi; omega
  have e2 : lo n = n := by unfold lo; omega
  have H1 := Lib.hid e1
  have H2 := Lib.hid e2
  clear e1 e2 hn
  go_enter Try.func73, Try.ntmps73
  go_wp2
  refine bodyPost_ret (v := .agg #[.int .u64 (hi n), .int .u64 (lo n)]) (by simp [results, Try.results73, go_sem, H1.out, H2.out]) rfl ⟨rfl, ?_⟩
  exact (Below.refl _ _).alloc (by simp) _

theorem clamp_one (n m r : Int) (h : r = min (max n 0) m) (w : World) : (RetX (.int .i64 r) w) = (RetX (.int .i64 (min (max n 0) m)) w) := by rw [h]
/-- The model's row for math/bits.Sub64. -/
def subEntry : Array Value → Sem Value := fun args => do
  let (x, y, b) ← Extern.MathBitsCarry.three "Sub64" args
  pure (Extern.MathBitsCarry.pair ((x + Extern.MathBitsCarry.m64 - y - b) % Extern.MathBitsCarry.m64) (if x < y + b then 1 else 0))
def bor (x y : Int) : Int := if x < y then 1 else 0
theorem bor_0 (x y : Int) : 0 ≤ bor x y := by unfold bor; split <;> decide
theorem bor_1 (x y : Int) : bor x y ≤ 1 := by unfold bor; split <;> decide
theorem sum_lo (a b : Nat) : (lo a + lo b) % 18446744073709551616 = lo (vsum a b) := by unfold lo vsum; omega
theorem sum_hi (a b : Nat) : (hi a + hi b + (lo a + lo b) / 18446744073709551616) % 18446744073709551616 = hi (vsum a b) := by unfold lo hi vsum; omega
theorem dif_lo (a b : Nat) (_ha : a < 2 ^ 128) (_hb : b < 2 ^ 128) : (lo a - lo b) % 18446744073709551616 = lo (vdif a b) := by unfold lo vdif; omega
theorem dif_hi (a b : Nat) (_ha : a < 2 ^ 128) (_hb : b < 2 ^ 128) : (hi a - hi b - bor (lo a) (lo b)) % 18446744073709551616 = hi (vdif a b) := by unfold lo hi bor vdif; split <;> omega

end Go.Proofs.Ythfimcbjbkbcjaa
