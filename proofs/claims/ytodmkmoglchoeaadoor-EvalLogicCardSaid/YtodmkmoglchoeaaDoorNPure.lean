/- Plain arithmetic of integers as six 32-bit words modulo 2^192: no program in sight. -/
import Derived.Test.YtodmkmoglchoeaaDoorPure
namespace Go.Proofs.YtodmkmoglchoeaaDoor
open Go.RowKit

/-- 2^(32 k) -/
def pw (k : Nat) : Int := 4294967296 ^ k
/-- word k of z -/
def wd (z : Int) (k : Nat) : Int := z / pw k % 4294967296
theorem pw_pos (k : Nat) : 0 < pw k := Int.pow_pos (by decide)
theorem pw_succ (k : Nat) : pw (k + 1) = pw k * 4294967296 := Int.pow_succ _ _
theorem pw_0 : pw 0 = 1 := rfl
theorem wd_0 (z : Int) (k : Nat) : 0 ≤ wd z k := by unfold wd; omega
theorem wd_1 (z : Int) (k : Nat) : wd z k < 4294967296 := by unfold wd; omega
theorem mod_succ (z : Int) (k : Nat) : z % pw (k + 1) = z % pw k + pw k * wd z k := by
  have hp := pw_pos k
  have e1 := Int.mul_ediv_add_emod z (pw k)
  have e2 := Int.mul_ediv_add_emod (z / pw k) 4294967296
  have hm := Int.emod_nonneg z (Int.ne_of_gt hp)
  have hl := Int.emod_lt_of_pos z hp
  have w0 := wd_0 z k
  have w1 := wd_1 z k
  have hz : z = (z % pw k + pw k * wd z k) + pw (k + 1) * (z / pw k / 4294967296) := by
    rw [pw_succ]; unfold wd
    calc z = pw k * (z / pw k) + z % pw k := e1.symm
      _ = pw k * (4294967296 * (z / pw k / 4294967296) + z / pw k % 4294967296) + z % pw k := by rw [e2]
      _ = _ := by rw [Int.mul_add, Int.mul_assoc]; omega
  have lo : 0 ≤ z % pw k + pw k * wd z k := Int.add_nonneg hm (Int.mul_nonneg (Int.le_of_lt hp) w0)
  have hi : z % pw k + pw k * wd z k < pw (k + 1) := by
    rw [pw_succ]
    have : pw k * wd z k ≤ pw k * 4294967295 := Int.mul_le_mul_of_nonneg_left (by omega) (Int.le_of_lt hp)
    omega
  calc z % pw (k + 1) = ((z % pw k + pw k * wd z k) + pw (k + 1) * (z / pw k / 4294967296)) % pw (k + 1) := by rw [← hz]
    _ = (z % pw k + pw k * wd z k) % pw (k + 1) := Int.add_mul_emod_self_left ..
    _ = _ := Int.emod_eq_of_lt lo hi
theorem div_split (z : Int) (k : Nat) : z = pw k * (z / pw k) + z % pw k := (Int.mul_ediv_add_emod z (pw k)).symm
theorem div_of (k : Nat) (r q : Int) : (r + pw k * q) / pw k = r / pw k + q := Int.add_mul_ediv_left _ _ (Int.ne_of_gt (pw_pos k))
theorem div_succ (r : Int) (k : Nat) : r / pw (k + 1) = r / pw k / 4294967296 := by
  rw [pw_succ, Int.ediv_ediv_of_nonneg (Int.le_of_lt (pw_pos k))]

/-- the carry into word k of a + b + c -/
def cy (a b c : Int) (k : Nat) : Int := (a % pw k + b % pw k + c) / pw k
theorem cy_0 (a b c : Int) : cy a b c 0 = c := by unfold cy; rw [pw_0]; omega
theorem wd_sum (a b c : Int) (k : Nat) : wd (a + b + c) k = (cy a b c k + (wd a k + wd b k)) % 4294967296 := by
  have ha := div_split a k
  have hb := div_split b k
  have e : a + b + c = (a % pw k + b % pw k + c) + pw k * (a / pw k + b / pw k) := by rw [Int.mul_add]; omega
  unfold cy; unfold wd
  rw [e, div_of]; omega
theorem cy_succ (a b c : Int) (k : Nat) : cy a b c (k + 1) = (cy a b c k + (wd a k + wd b k)) / 4294967296 := by
  unfold cy
  rw [mod_succ, mod_succ, div_succ]
  have e : a % pw k + pw k * wd a k + (b % pw k + pw k * wd b k) + c = (a % pw k + b % pw k + c) + pw k * (wd a k + wd b k) := by rw [Int.mul_add]; omega
  rw [e, div_of]
theorem cy_b (a b c : Int) (h0 : 0 ≤ c) (h1 : c ≤ 1) (k : Nat) : 0 ≤ cy a b c k ∧ cy a b c k ≤ 1 := by
  induction k with
  | zero => rw [cy_0]; exact ⟨h0, h1⟩
  | succ k ih =>
    rw [cy_succ]
    have := wd_0 a k; have := wd_0 b k; have := wd_1 a k; have := wd_1 b k
    omega
/-- the carry into word k of a * m + d -/
def ce (a m d : Int) (k : Nat) : Int := (a % pw k * m + d) / pw k
theorem ce_0 (a m d : Int) : ce a m d 0 = d := by unfold ce; rw [pw_0, Int.emod_one, Int.zero_mul, Int.zero_add, Int.ediv_one]
theorem wd_ext (a m d : Int) (k : Nat) : wd (a * m + d) k = (ce a m d k + wd a k * m) % 4294967296 := by
  have ha := div_split a k
  have e : a * m + d = (a % pw k * m + d) + pw k * (a / pw k * m) := by
    have : a * m = (pw k * (a / pw k) + a % pw k) * m := by rw [← ha]
    rw [this, Int.add_mul, Int.mul_assoc]; omega
  unfold ce; unfold wd
  rw [e, div_of]
  rw [Int.add_emod _ (a / pw k % 4294967296 * m), Int.add_emod _ (a / pw k * m), Int.mul_emod (a / pw k % 4294967296), Int.emod_emod_of_dvd _ (Int.dvd_refl _), ← Int.mul_emod]
theorem ce_succ (a m d : Int) (k : Nat) : ce a m d (k + 1) = (ce a m d k + wd a k * m) / 4294967296 := by
  unfold ce
  rw [mod_succ, div_succ]
  have e : (a % pw k + pw k * wd a k) * m + d = (a % pw k * m + d) + pw k * (wd a k * m) := by rw [Int.add_mul, Int.mul_assoc]; omega
  rw [e, div_of]
theorem ce_b (a m d : Int) (hm : m ≤ 16) (h0 : 0 ≤ d) (h1 : d < m) (k : Nat) : 0 ≤ ce a m d k ∧ ce a m d k < m := by
  induction k with
  | zero => rw [ce_0]; exact ⟨h0, h1⟩
  | succ k ih =>
    rw [ce_succ]
    have h0 := wd_0 a k; have h1 := wd_1 a k
    have p0 : 0 ≤ wd a k * m := Int.mul_nonneg h0 (by omega)
    have p1 : wd a k * m ≤ 4294967295 * m := Int.mul_le_mul_of_nonneg_right (by omega) (by omega)
    generalize wd a k * m = p at p0 p1
    omega
/-- the complement -/
theorem wd_not (a : Int) (k : Nat) : wd (-a - 1) k = 4294967295 - wd a k := by
  have hp := pw_pos k
  have ha := div_split a k
  have hm := Int.emod_nonneg a (Int.ne_of_gt hp)
  have hl := Int.emod_lt_of_pos a hp
  have e : -a - 1 = (pw k - 1 - a % pw k) + pw k * (-(a / pw k) - 1) := by
    rw [Int.mul_sub, Int.mul_neg]; omega
  unfold wd
  rw [e, div_of, Int.ediv_eq_zero_of_lt (by omega) (by omega)]
  omega
/-- what is left of a when it is divided by m, from word k on -/
def rs (u m : Int) (k : Nat) : Int := u / pw k % m
theorem rs_b (u m : Int) (hm : 0 < m) (k : Nat) : 0 ≤ rs u m k ∧ rs u m k < m := by
  unfold rs; exact ⟨Int.emod_nonneg _ (Int.ne_of_gt hm), Int.emod_lt_of_pos _ hm⟩
theorem rs_step (u m : Int) (_hm : 0 < m) (k : Nat) : rs u m k = (rs u m (k + 1) * 4294967296 + wd u k) % m := by
  unfold rs wd
  rw [div_succ]
  generalize u / pw k = q
  have e := Int.mul_ediv_add_emod q 4294967296
  rw [Int.add_emod _ (q % 4294967296), Int.mul_emod (q / 4294967296 % m), Int.emod_emod_of_dvd _ (Int.dvd_refl m), ← Int.mul_emod, ← Int.add_emod]
  congr 1; omega
theorem wd_div (u m : Int) (hm : 0 < m) (k : Nat) : wd (u / m) k = (rs u m (k + 1) * 4294967296 + wd u k) / m := by
  have hb := rs_b u m hm (k + 1)
  have w0 := wd_0 u k
  have w1 := wd_1 u k
  have e1 : u / m / pw k = u / pw k / m := by
    rw [Int.ediv_ediv_of_nonneg (Int.le_of_lt hm), Int.ediv_ediv_of_nonneg (Int.le_of_lt (pw_pos k)), Int.mul_comm]
  have e2 := Int.mul_ediv_add_emod (u / pw k) 4294967296
  have e3 := Int.mul_ediv_add_emod (u / pw (k + 1)) m
  have e4 : u / pw k = (rs u m (k + 1) * 4294967296 + wd u k) + m * (u / pw (k + 1) / m * 4294967296) := by
    have : u / pw k = 4294967296 * (u / pw (k + 1)) + wd u k := by rw [div_succ]; unfold wd; omega
    rw [this]; unfold rs
    have h : u / pw (k + 1) = m * (u / pw (k + 1) / m) + u / pw (k + 1) % m := e3.symm
    have h2 : m * (u / pw (k + 1) / m * 4294967296) = (m * (u / pw (k + 1) / m)) * 4294967296 := (Int.mul_assoc ..).symm
    rw [h2]
    generalize m * (u / pw (k + 1) / m) = x at h
    omega
  show u / m / pw k % 4294967296 = _
  rw [e1, e4, Int.add_mul_ediv_left _ _ (Int.ne_of_gt hm)]
  have lo : 0 ≤ (rs u m (k + 1) * 4294967296 + wd u k) / m := Int.ediv_nonneg (by omega) (Int.le_of_lt hm)
  have hi : (rs u m (k + 1) * 4294967296 + wd u k) / m < 4294967296 := by
    apply Int.ediv_lt_of_lt_mul hm
    have h1 : rs u m (k + 1) * 4294967296 + 4294967296 ≤ m * 4294967296 := by
      have := Int.mul_le_mul_of_nonneg_right (show rs u m (k + 1) + 1 ≤ m by omega) (show (0 : Int) ≤ 4294967296 by decide)
      omega
    rw [Int.mul_comm 4294967296]; omega
  omega
theorem wd_mod (z : Int) (k : Nat) (hk : k < 6) : wd (z % pw 6) k = wd z k := by
  have hd : pw 6 = pw k * (4294967296 * pw (5 - k)) := by
    unfold pw
    rw [← Int.pow_succ', ← Int.pow_add]; congr 1; omega
  have e := div_split z 6
  unfold wd
  have : z / pw k = z % pw 6 / pw k + 4294967296 * (pw (5 - k) * (z / pw 6)) := by
    have h2 : z = z % pw 6 + pw k * (4294967296 * (pw (5 - k) * (z / pw 6))) := by
      rw [← Int.mul_assoc 4294967296, ← Int.mul_assoc (pw k), ← hd]; omega
    calc z / pw k = (z % pw 6 + pw k * (4294967296 * (pw (5 - k) * (z / pw 6)))) / pw k := by rw [← h2]
      _ = _ := div_of _ _ _
  rw [this]; omega
theorem mod_words (z : Int) : z % pw 6 = wd z 0 + 4294967296 * (wd z 1 + 4294967296 * (wd z 2 + 4294967296 * (wd z 3 + 4294967296 * (wd z 4 + 4294967296 * wd z 5)))) := by
  rw [mod_succ, mod_succ, mod_succ, mod_succ, mod_succ, mod_succ, pw_0]
  have p1 : pw 1 = 4294967296 := rfl
  have p2 : pw 2 = 4294967296 * 4294967296 := rfl
  have p3 : pw 3 = 4294967296 * (4294967296 * 4294967296) := rfl
  have p4 : pw 4 = 4294967296 * (4294967296 * (4294967296 * 4294967296)) := rfl
  have p5 : pw 5 = 4294967296 * (4294967296 * (4294967296 * (4294967296 * 4294967296))) := rfl
  rw [p1, p2, p3, p4, p5]
  omega
theorem pw6 : pw 6 = 6277101735386680763835789423207666416102355444464034512896 := rfl
theorem words_eq {a b : Int} (h : ∀ k, k < 6 → wd a k = wd b k) : a % pw 6 = b % pw 6 := by
  rw [mod_words, mod_words, h 0 (by decide), h 1 (by decide), h 2 (by decide), h 3 (by decide), h 4 (by decide), h 5 (by decide)]
/-- the range in which a number is told by its words -/
def Rg (z : Int) : Prop := -3138550867693340381917894711603833208051177722232017256448 ≤ z ∧ z < 3138550867693340381917894711603833208051177722232017256448
theorem words_inj {a b : Int} (ha : Rg a) (hb : Rg b) (h : ∀ k, k < 6 → wd a k = wd b k) : a = b := by
  have e := words_eq h
  rw [pw6] at e
  unfold Rg at ha hb
  omega
end Go.Proofs.YtodmkmoglchoeaaDoor
