/- Contracts, joined: Val, Val2, Val3, Val4, Row, Bytes. -/
import Derived.Test.YtldgjahpmlafgaaGreatPure
import Derived.Laws.Externs
import Derived.Lib.Hide
import Derived.Deep.RegionHeld3
import Derived.Deep.QuietTactic
import Derived.BigQuiet
import Derived.StillTailTactics
import Derived.Lib.Walk
import Derived.Deep.Light
import Derived.Laws.IdiomCopy
import Derived.Deep.MidRow
import Derived.Deep.WholeRow
namespace Go.Proofs.YtldgjahpmlafgaaGreat
/- The calls of package value: what each returns. -/
section
open Go.RowKit

set_option maxRecDepth 100000 in
set_option maxHeartbeats 400000 in
theorem and_any (a b : Nat) (w : World) :
    Calls Tryz.prog 203 #[.agg #[.int .u64 (hi a), .int .u64 (lo a)], .agg #[.int .u64 (hi b), .int .u64 (lo b)]] w (RetV (a &&& b) w) := by
  go_enter Tryz.func203, Tryz.ntmps203
  go_wp2
  refine bodyPost_ret (v := .agg #[.int .u64 (hi (a &&& b)), .int .u64 (lo (a &&& b))]) (by simp [results, Tryz.results203, go_sem, and_hi, and_lo]) rfl ⟨rfl, ?_⟩
  exact (((Below.refl _ _).alloc (by simp) _).alloc (by simp) _).alloc (by simp; omega) _

set_option maxRecDepth 100000 in
set_option maxHeartbeats 400000 in
theorem xor_any (a b : Nat) (w : World) :
    Calls Tryz.prog 216 #[.agg #[.int .u64 (hi a), .int .u64 (lo a)], .agg #[.int .u64 (hi b), .int .u64 (lo b)]] w (RetV (a ^^^ b) w) := by
  go_enter Tryz.func216, Tryz.ntmps216
  go_wp2
  refine bodyPost_ret (v := .agg #[.int .u64 (hi (a ^^^ b)), .int .u64 (lo (a ^^^ b))]) (by simp [results, Tryz.results216, go_sem, xor_hi, xor_lo]) rfl ⟨rfl, ?_⟩
  exact (((Below.refl _ _).alloc (by simp) _).alloc (by simp) _).alloc (by simp; omega) _

set_option maxRecDepth 100000 in
theorem clamp_one (n m r : Int) (h : r = min (max n 0) m) (w : World) : (RetX (.int .i64 r) w) = (RetX (.int .i64 (min (max n 0) m)) w) := by rw [h]
set_option maxRecDepth 100000 in
set_option maxHeartbeats 400000 in
theorem clamp_any (n m : Int) (hm : 0 ≤ m) (w : World) :
    Calls Tryz.prog 215 #[.int .i64 n, .int .i64 m] w fun e w' => e = .returned (.int .i64 (min (max n 0) m)) ∧ w = w' := by
  have _ := hm
  first
  | (go_enter Tryz.func215, Tryz.ntmps215
     go_wp2
     go_ret
     exact ⟨rfl, rfl⟩)
  | (by_cases h1 : n < 0
     · have e : min (max n 0) m = 0 := by omega
       rw [e]; clear e
       go_enter Tryz.func215, Tryz.ntmps215
       go_wp2
       go_ret
       exact ⟨rfl, rfl⟩
     · by_cases h2 : n ≤ m
       · have e : min (max n 0) m = n := by omega
         rw [e]; clear e
         go_enter Tryz.func215, Tryz.ntmps215
         go_wp2
         go_ret
         exact ⟨rfl, rfl⟩
       · have e : min (max n 0) m = m := by omega
         rw [e]; clear e
         go_enter Tryz.func215, Tryz.ntmps215
         go_wp2
         go_ret
         exact ⟨rfl, rfl⟩)

/-- The model's row for math/bits.Sub64. -/
def subEntry : Array Value → Sem Value := fun args => do
  let (x, y, b) ← Extern.MathBitsCarry.three "Sub64" args
  pure (Extern.MathBitsCarry.pair ((x + Extern.MathBitsCarry.m64 - y - b) % Extern.MathBitsCarry.m64) (if x < y + b then 1 else 0))
def bor (x y : Int) : Int := if x < y then 1 else 0
set_option maxRecDepth 100000 in
theorem bor_0 (x y : Int) : 0 ≤ bor x y := by unfold bor; split <;> decide
set_option maxRecDepth 100000 in
theorem bor_1 (x y : Int) : bor x y ≤ 1 := by unfold bor; split <;> decide
set_option maxRecDepth 100000 in
theorem sum_lo (a b : Nat) : (lo a + lo b) % 18446744073709551616 = lo (vsum a b) := by unfold lo vsum; omega
set_option maxRecDepth 100000 in
theorem sum_hi (a b : Nat) : (hi a + hi b + (lo a + lo b) / 18446744073709551616) % 18446744073709551616 = hi (vsum a b) := by unfold lo hi vsum; omega
set_option maxRecDepth 100000 in
theorem dif_lo (a b : Nat) (_ha : a < 2 ^ 128) (_hb : b < 2 ^ 128) : (lo a - lo b) % 18446744073709551616 = lo (vdif a b) := by unfold lo vdif; omega
set_option maxRecDepth 100000 in
theorem dif_hi (a b : Nat) (_ha : a < 2 ^ 128) (_hb : b < 2 ^ 128) : (hi a - hi b - bor (lo a) (lo b)) % 18446744073709551616 = hi (vdif a b) := by unfold lo hi bor vdif; split <;> omega

end
/- The calls of package value that call others: what each returns. -/
section
open Go.RowKit

set_option maxRecDepth 100000 in
set_option maxHeartbeats 400000 in
theorem right_any (a : Nat) (n : Int) (ha : a < 2 ^ 128) (hn : n ≤ 9223372036854775807) (w : World) :
    Calls Tryz.prog 218 #[.agg #[.int .u64 (hi a), .int .u64 (lo a)], .int .i64 n] w (RetV (a / 2 ^ n.toNat) w) := by
  by_cases h1 : n ≤ 0
  · have e : n.toNat = 0 := by omega
    rw [e, Nat.pow_zero, Nat.div_one]
    clear e
    go_enter Tryz.func218, Tryz.ntmps218
    go_wp2
    refine bodyPost_ret (v := .agg #[.int .u64 (hi a), .int .u64 (lo a)]) (by simp [results, Tryz.results218, go_sem]) rfl ⟨rfl, ?_⟩
    exact ((Below.refl _ _).alloc (by simp) _).alloc (by simp) _
  · obtain ⟨k, rfl⟩ := Int.eq_ofNat_of_zero_le (show 0 ≤ n by omega)
    rw [Int.toNat_natCast]
    have k0 : 0 < (k : Int) := by omega
    by_cases h2 : (64 : Int) ≤ k
    · have H1 := Lib.hid (right_lo_big a k (by omega) ha)
      have H2 := Lib.hid (right_hi_big a k (by omega) ha)
      clear ha
      go_enter Tryz.func218, Tryz.ntmps218
      go_wp2
      refine bodyPost_ret (v := .agg #[.int .u64 (hi (a / 2 ^ k)), .int .u64 (lo (a / 2 ^ k))]) (by rw [← H1.out, ← H2.out]; simp [results, Tryz.results218, go_sem]) rfl ⟨rfl, ?_⟩
      exact ((Below.refl _ _).alloc (by simp) _).alloc (by simp) _
    · have h3 : (k : Int) < 64 := by omega
      have H1 := Lib.hid (right_lo_small a k (by omega) (by omega))
      have H2 := Lib.hid (right_hi_small a k (by omega) ha)
      clear ha h2
      go_enter Tryz.func218, Tryz.ntmps218
      go_wp2
      refine bodyPost_ret (v := .agg #[.int .u64 (hi (a / 2 ^ k)), .int .u64 (lo (a / 2 ^ k))]) (by rw [← H1.out, ← H2.out]; simp [results, Tryz.results218, go_sem, IntKind.wrap_u64]) rfl ⟨rfl, ?_⟩
      exact ((Below.refl _ _).alloc (by simp) _).alloc (by simp) _

set_option maxRecDepth 100000 in
/-- The table's byte at y. -/
theorem len8_get (y : Int) (h : y.toNat < Lib.len8tab.size) : ((Lib.len8tab[y.toNat]'h).toNat : Int) = Lib.len8 y := by
  unfold Lib.len8
  rw [getElem?_pos Lib.len8tab y.toNat h]
  rfl
set_option maxRecDepth 100000 in
theorem wrap_add (k a b : Nat) (hk : k ≤ 56) (ha : a ≤ 8) (hb : b = k + a) : wrap64 ((k : Int) + wrap64 (a : Int)) = (b : Int) := by
  unfold wrap64
  omega
set_option maxRecDepth 100000 in
theorem wrap_two (a : Nat) (ha : a ≤ 8) : wrap64 (wrap64 (a : Int)) = (a : Int) := by
  unfold wrap64
  omega
set_option maxRecDepth 100000 in
/-- ... behind the sum with k. -/
theorem len_fin (k d : Nat) (hd : d = 2 ^ k) (x y : Int) (h0 : 0 ≤ x) (h1 : x < 18446744073709551616) (hk : k ≤ 56) (h2 : y.toNat = x.toNat / d) (h3 : 0 ≤ y) (h4 : y < 256) (h5 : d ≤ x.toNat) (h : y.toNat < Lib.len8tab.size) :
    wrap64 ((k : Int) + wrap64 ((Lib.len8tab[y.toNat]'h).toNat : Int)) = (Lib.bitLen x.toNat : Int) := by
  rw [len8_get y h, Lib.len8_of y h3 (by omega)]
  have l := Lib.bitLen_le8' y h3 (by omega)
  have s := Lib.bitLen_shift k x.toNat (hd ▸ h5) (by omega)
  rw [← hd, ← h2] at s
  exact wrap_add k _ _ hk l s
set_option maxRecDepth 100000 in
theorem len_fin0 (x : Int) (h3 : 0 ≤ x) (h4 : x < 256) (h : x.toNat < Lib.len8tab.size) :
    wrap64 (wrap64 ((Lib.len8tab[x.toNat]'h).toNat : Int)) = (Lib.bitLen x.toNat : Int) := by
  rw [len8_get x h, Lib.len8_of x h3 (by omega)]
  exact wrap_two _ (Lib.bitLen_le8' x h3 (by omega))

set_option maxHeartbeats 4000000 in
set_option maxRecDepth 100000 in
theorem len64_any (x : Int) (w : World) (h0 : 0 ≤ x) (h1 : x ≤ 18446744073709551615) :
    Calls Tryz.prog 201 #[.int .u64 x] w fun e w' => e = .returned (.int .i64 (Lib.bitLen x.toNat)) ∧ w = w' := by
  go_enter Tryz.func201, Tryz.ntmps201
  go_wp2
  all_goals first
    | (go_ret; refine ⟨congrArg Ending.returned (congrArg (Value.int IntKind.i64) ?_), rfl⟩; go_light)
    | (exfalso
       go_light
       have hs := Lib.len8tab_size
       omega)
  · exact len_fin 56 72057594037927936 (by decide) x (x / 4294967296 / 65536 / 256) h0 (by omega) (by decide) (by omega) (by omega) (by omega) (by omega) _
  · exact len_fin 48 281474976710656 (by decide) x (x / 4294967296 / 65536) h0 (by omega) (by decide) (by omega) (by omega) (by omega) (by omega) _
  · exact len_fin 40 1099511627776 (by decide) x (x / 4294967296 / 256) h0 (by omega) (by decide) (by omega) (by omega) (by omega) (by omega) _
  · exact len_fin 32 4294967296 (by decide) x (x / 4294967296) h0 (by omega) (by decide) (by omega) (by omega) (by omega) (by omega) _
  · exact len_fin 24 16777216 (by decide) x (x / 65536 / 256) h0 (by omega) (by decide) (by omega) (by omega) (by omega) (by omega) _
  · exact len_fin 16 65536 (by decide) x (x / 65536) h0 (by omega) (by decide) (by omega) (by omega) (by omega) (by omega) _
  · exact len_fin 8 256 (by decide) x (x / 256) h0 (by omega) (by decide) (by omega) (by omega) (by omega) (by omega) _
  · exact len_fin0 x h0 (by omega) _
end
/- Len, Fits, Bit and Compare of package value. -/
section
open Go.RowKit

set_option maxRecDepth 100000 in
theorem lib_bitLen_aux : ∀ (f x : Nat), x < 2 ^ f → Lib.bitLenAux f x = bitLen x
  | 0, x, h => by
    have : x = 0 := by simpa using h
    subst this; rfl
  | f + 1, x, h => by
    unfold Lib.bitLenAux
    by_cases h0 : x = 0
    · subst h0; rfl
    · rw [if_neg h0, lib_bitLen_aux f (x / 2) (by omega)]
      by_cases h1 : x / 2 = 0
      · have : x = 1 := by omega
        subst this; decide
      · have := bitLen_shift x 1 (by simpa using h1)
        rw [this]
set_option maxRecDepth 100000 in
theorem lib_bitLen (x : Nat) (h : x < 2 ^ 64) : Lib.bitLen x = bitLen x := lib_bitLen_aux 64 x h
set_option maxRecDepth 100000 in
theorem len_hi (a : Nat) (ha : a < 2 ^ 128) (h : hi a ≠ 0) : (64 + (Lib.bitLen (hi a).toNat : Nat) : Nat) = bitLen a := by
  have e : (hi a).toNat = a / 2 ^ 64 := by unfold hi; omega
  have h' : a / 2 ^ 64 ≠ 0 := by intro e'; rw [e'] at e; have := hi_0 a; omega
  rw [e, lib_bitLen _ (by omega), bitLen_shift a 64 h']
set_option maxRecDepth 100000 in
theorem len_lo (a : Nat) (ha : a < 2 ^ 128) (h : hi a = 0) : Lib.bitLen (lo a).toNat = bitLen a := by
  have e : (lo a).toNat = a := by unfold hi at h; unfold lo; omega
  rw [e, lib_bitLen a (by unfold hi at h; omega)]
set_option maxRecDepth 100000 in
theorem len_le (a : Nat) (ha : a < 2 ^ 128) : bitLen a ≤ 128 := by
  unfold bitLen
  split
  · omega
  · rename_i h
    have := (Nat.log2_lt h).2 ha
    omega
set_option maxRecDepth 100000 in
theorem lib_len_le (x : Int) (h1 : x < 18446744073709551616) : Lib.bitLen x.toNat ≤ 64 := Lib.bitLen_le _ 64 (by decide) (by omega)

set_option maxRecDepth 100000 in
set_option maxHeartbeats 400000 in
theorem len_any (a : Nat) (ha : a < 2 ^ 128) (w : World) :
    Calls Tryz.prog 217 #[.agg #[.int .u64 (hi a), .int .u64 (lo a)]] w (RetX (.int .i64 (bitLen a)) w) := by
  have a0 := hi_0 a; have a1 := hi_1 a; have b0 := lo_0 a; have b1 := lo_1 a
  by_cases h : hi a = 0
  · have H := Lib.hid (len_lo a ha h)
    have t1 : (hi a != 0) = false := by simp [h]
    have l := lib_len_le (lo a) b1
    clear h ha
    go_enter Tryz.func217, Tryz.ntmps217
    go_wp2_with (go_at_call 201; refine (len64_any _ _ b0 (by omega)).mono ?_; rintro e w' ⟨rfl, rfl⟩)
    go_ret
    rw [H.out]
    exact ⟨rfl, (Below.refl _ _).alloc (by simp) _⟩
  · have H := Lib.hid (len_hi a ha h)
    have t1 : (hi a != 0) = true := by simp [h]
    have l := lib_len_le (hi a) a1
    clear h ha
    go_enter Tryz.func217, Tryz.ntmps217
    go_wp2_with (go_at_call 201; refine (len64_any _ _ a0 (by omega)).mono ?_; rintro e w' ⟨rfl, rfl⟩)
    go_ret
    rw [← H.out]
    exact ⟨by simp, (Below.refl _ _).alloc (by simp) _⟩

set_option maxRecDepth 100000 in
set_option maxHeartbeats 400000 in
theorem fits_any (a : Nat) (n : Int) (ha : a < 2 ^ 128) (w : World) :
    Calls Tryz.prog 207 #[.agg #[.int .u64 (hi a), .int .u64 (lo a)], .int .i64 n] w (RetX (.bool (decide ((bitLen a : Int) ≤ n))) w) := by
  go_enter Tryz.func207, Tryz.ntmps207
  go_wp2_with (go_at_call 217; refine (len_any a ha _).mono ?_; rintro e w' ⟨rfl, hb⟩)
  go_ret
  exact ⟨by simp, Below.trans ((Below.refl _ _).alloc (by simp) _) (hb.mono (by simp))⟩

def cmp (a b : Nat) : Int := if a = b then 0 else if a < b then -1 else 1
set_option maxRecDepth 100000 in
set_option maxHeartbeats 1000000 in
theorem compare_any (a b : Nat) (ha : a < 2 ^ 128) (hb : b < 2 ^ 128) (w : World) :
    Calls Tryz.prog 144 #[.agg #[.int .u64 (hi a), .int .u64 (lo a)], .agg #[.int .u64 (hi b), .int .u64 (lo b)]] w (RetX (.int .i64 (cmp a b)) w) := by
  by_cases h1 : a = b
  · subst h1
    have e : cmp a a = 0 := by simp [cmp]
    rw [e]; clear e ha hb
    go_enter Tryz.func144, Tryz.ntmps144
    go_wp2
    go_ret
    exact ⟨rfl, ((Below.refl _ _).alloc (by simp) _).alloc (by simp) _⟩
  · by_cases h2 : hi a < hi b
    · have e : cmp a b = -1 := by unfold cmp; rw [if_neg h1, if_pos (by unfold hi at h2; omega)]
      have t1 : (hi a == hi b) = false := by simp; omega
      rw [e]; clear e ha hb h1
      go_enter Tryz.func144, Tryz.ntmps144
      go_wp2
      go_ret
      exact ⟨rfl, ((Below.refl _ _).alloc (by simp) _).alloc (by simp) _⟩
    · by_cases h3 : hi a = hi b
      · have h4 : lo a ≠ lo b := fun e => h1 (hi_inj ha hb h3 e)
        by_cases h5 : lo a < lo b
        · have e : cmp a b = -1 := by unfold cmp; rw [if_neg h1, if_pos (by unfold hi at h3; unfold lo at h5; omega)]
          have t2 : (lo a == lo b) = false := by simp; omega
          rw [e]; clear e ha hb h1 h2
          rw [h3]; clear h3
          go_enter Tryz.func144, Tryz.ntmps144
          go_wp2
          go_ret
          exact ⟨rfl, ((Below.refl _ _).alloc (by simp) _).alloc (by simp) _⟩
        · have e : cmp a b = 1 := by unfold cmp; rw [if_neg h1, if_neg (by unfold hi at h3; unfold lo at h5 h4; omega)]
          have t2 : (lo a == lo b) = false := by simp; omega
          have t3 : decide (lo a < lo b) = false := by simp; omega
          rw [e]; clear e ha hb h1 h2
          rw [h3]; clear h3
          go_enter Tryz.func144, Tryz.ntmps144
          go_wp2
          go_ret
          exact ⟨rfl, ((Below.refl _ _).alloc (by simp) _).alloc (by simp) _⟩
      · have e : cmp a b = 1 := by unfold cmp; rw [if_neg h1, if_neg (by unfold hi at h2 h3; omega)]
        have t1 : (hi a == hi b) = false := by simp; omega
        have t3 : decide (hi a < hi b) = false := by simp; omega
        rw [e]; clear e ha hb h1
        go_enter Tryz.func144, Tryz.ntmps144
        go_wp2
        go_ret
        exact ⟨rfl, ((Below.refl _ _).alloc (by simp) _).alloc (by simp) _⟩

set_option maxRecDepth 100000 in
theorem run_field_lo (x y : Int) (w : World) : (Instr.field 49 (.agg #[.int .u64 x, .int .u64 y]) 1).run Tryz.prog w = .ok (.int .u64 y) w := by
  first | rfl | kernel_rfl
set_option maxRecDepth 100000 in
theorem bit_one (a i : Nat) : (bits .and .u64 (lo (a / 2 ^ i)) 1 == 1) = a.testBit i := by
  have h : (1 : Int) = lo 1 := rfl
  rw [h, and_lo]
  unfold lo
  rw [Nat.and_one_is_mod]
  rw [Bool.eq_iff_iff, Nat.testBit_eq_decide_div_mod_eq]
  simp only [beq_iff_eq, decide_eq_true_eq]
  omega
set_option maxRecDepth 100000 in
theorem bit_neg (n : Int) (h : n < 0) (a : Nat) : (decide (0 ≤ n) && a.testBit n.toNat) = false := by
  simp; omega
end
/- Ones, Leading, Not, Add and Sub of package value. -/
section
open Go.RowKit

set_option maxRecDepth 100000 in
theorem hi_max : hi (2 ^ 128 - 1) = 18446744073709551615 := by decide
set_option maxRecDepth 100000 in
theorem lo_max : lo (2 ^ 128 - 1) = 18446744073709551615 := by decide
set_option maxRecDepth 100000 in
theorem ones_eq (k : Int) : (2 ^ 128 - 1) / 2 ^ (128 - min (max k 0) 128).toNat = 2 ^ cl k - 1 := by
  have h : (128 - min (max k 0) 128).toNat = 128 - cl k := by unfold cl; omega
  have hc := cl_le k
  rw [h]
  generalize cl k = c at hc ⊢
  apply Nat.eq_of_testBit_eq; intro i
  rw [Nat.testBit_div_two_pow, Nat.testBit_two_pow_sub_one, Nat.testBit_two_pow_sub_one]
  simp; omega
/-- That many ones. -/
def ones (k : Int) : Nat := 2 ^ cl k - 1
set_option maxRecDepth 100000 in
theorem right_max (k : Int) (w : World) :
    Calls Tryz.prog 218 #[.agg #[.int .u64 18446744073709551615, .int .u64 18446744073709551615], .int .i64 (128 - min (max k 0) 128)] w (RetV (ones k) w) := by
  have h := right_any (2 ^ 128 - 1) (128 - min (max k 0) 128) (by decide) (by omega) w
  rw [hi_max, lo_max, ones_eq] at h
  exact h
set_option maxRecDepth 100000 in
theorem clamp_0 (k : Int) : 0 ≤ min (max k 0) 128 := by omega
set_option maxRecDepth 100000 in
theorem clamp_1 (k : Int) : min (max k 0) 128 ≤ 128 := by omega

set_option maxRecDepth 100000 in
set_option maxHeartbeats 1000000 in
theorem ones_any (k : Int) (w : World) :
    Calls Tryz.prog 209 #[.int .i64 k] w (RetV (ones k) w) := by
  have k0 := clamp_0 k
  have k1 := clamp_1 k
  have s1 : IntKind.i64.wrap (128 - min (max k 0) 128) = 128 - min (max k 0) 128 := IntWalk.i64_in _ (by omega)
  go_enter Tryz.func209, Tryz.ntmps209
  go_wp2
  go_region_held3 (fun w' => w'.cell? ⟨w.heap.size + 1, 0, none⟩ = some (.int .u64 18446744073709551615) ∧ w'.cell? ⟨w.heap.size + 1, 1, none⟩ = some (.int .u64 18446744073709551615)) (simp [go_sem, *])
    (first
      | (go_at_call 215; refine (clamp_any k 128 (by omega) _).mono ?_; rintro e w' ⟨rfl, rfl⟩)
      | (go_at_call 218; refine (right_max k _).mono ?_; rintro e w' ⟨rfl, hb⟩; obtain ⟨hc, hf, hz⟩ := after (w.heap.size + 2) hb (by simp) (by simp)))
  go_wp2
  refine bodyPost_ret (v := .agg #[.int .u64 (hi (ones k)), .int .u64 (lo (ones k))]) (by simp [results, Tryz.results209, go_sem, hc]) rfl ⟨rfl, ?_⟩
  exact Below.setCell (Below.setCell (((((Below.refl _ _).alloc (by simp) _).alloc (by simp) _).drew).trans (hb.mono (by simp; omega))) (by simp) _) (by simp) _

/-- The value of that many bits whose n highest are 1. -/
def lead (k n : Int) : Nat := ones (min (max k 0) 128) ^^^ ones (min (max k 0) 128 - min (max n 0) (min (max k 0) 128))
set_option maxRecDepth 100000 in
theorem clamp_2 (n m : Int) (h : 0 ≤ m) : 0 ≤ min (max n 0) m := by omega
set_option maxRecDepth 100000 in
theorem clamp_3 (n m : Int) : min (max n 0) m ≤ m := by omega
set_option maxRecDepth 100000 in
set_option maxHeartbeats 1000000 in
theorem leading_any (k n : Int) (w : World) :
    Calls Tryz.prog 202 #[.int .i64 k, .int .i64 n] w (RetV (lead k n) w) := by
  unfold lead
  have k0 := clamp_0 k
  have k1 := clamp_1 k
  have k2 := clamp_2 n (min (max k 0) 128) k0
  have k3 := clamp_3 n (min (max k 0) 128)
  generalize hk : min (max k 0) 128 = c at k0 k1 k2 k3 ⊢
  generalize hm : min (max n 0) c = m at k2 k3 ⊢
  have Hk := Lib.hid hk
  have Hm := Lib.hid hm
  clear hk hm
  go_enter Tryz.func202, Tryz.ntmps202
  go_wp2_with fail
  go_at_call 215; refine (clamp_any k 128 (by omega) _).mono ?_; rintro e w' ⟨rfl, rfl⟩
  rw [Hk.out]
  go_wp2_with fail
  go_at_call 215; refine (clamp_any n c k0 _).mono ?_; rintro e w' ⟨rfl, rfl⟩
  rw [Hm.out]
  go_wp2_with fail
  go_at_call 209; refine (ones_any c _).mono ?_; rintro e w1 ⟨rfl, hb1⟩; obtain ⟨hc1, hf1, hz1⟩ := after (w.heap.size + 1) hb1 (by simp) (by simp)
  go_wp2_with fail
  go_at_call 209; refine (ones_any (c - m) _).mono ?_; rintro e w2 ⟨rfl, hb2⟩; obtain ⟨hc2, hf2, hz2⟩ := after (w.heap.size + 1) hb2 (hz1 w.heap.size (by omega)) (hz1 w.heap.size (by omega))
  go_wp2_with fail
  go_at_call 216; refine (xor_any _ _ _).mono ?_; rintro e w3 ⟨rfl, hb3⟩; obtain ⟨hc3, hf3, hz3⟩ := after (w.heap.size + 1) hb3 (hz2 w.heap.size (by omega)) (hz2 w.heap.size (by omega))
  go_wp2
  have h1 := hz1 w.heap.size (by omega)
  have h2 := hz2 w.heap.size (by omega)
  refine bodyPost_ret (v := .agg #[.int .u64 (hi (ones c ^^^ ones (c - m))), .int .u64 (lo (ones c ^^^ ones (c - m)))]) (by simp [results, Tryz.results202, go_sem, hc1, hc2, hc3]) rfl ⟨rfl, ?_⟩
  exact Below.setCell (Below.setCell ((((Below.refl _ _).alloc (by simp) _).trans (hb1.mono (by simp))).trans ((hb2.mono (by omega)).trans (hb3.mono (by omega)))) (by simp) _) (by simp) _
end
/- Rows of n cells: how they are made, read whole and stored whole. -/
section
open Go.RowKit

def rowL (n : Nat) (f : Nat → Value) : List Value := (List.range n).map f
def rowA (n : Nat) (f : Nat → Value) : Array Value := (rowL n f).toArray
set_option maxRecDepth 100000 in
theorem rowL_len (n : Nat) (f : Nat → Value) : (rowL n f).length = n := by simp [rowL]
set_option maxRecDepth 100000 in
theorem rowA_size (n : Nat) (f : Nat → Value) : (rowA n f).size = n := by simp [rowA, rowL]
set_option maxRecDepth 100000 in
theorem rowA_get (n : Nat) (f : Nat → Value) (i : Nat) (h : i < n) : (rowA n f)[i]? = some (f i) := by
  simp [rowA, rowL, h]
set_option maxRecDepth 100000 in
theorem rowL_get (n : Nat) (f : Nat → Value) (i : Nat) (h : i < n) : (rowL n f)[i]? = some (f i) := by
  simp [rowL, h]
set_option maxRecDepth 100000 in
theorem rowL_one {n : Nat} {f : Nat → Value} (h : ∀ i, i < n → (f i).oneCell' = true) : ∀ v ∈ rowL n f, v.oneCell' = true := fun v hv => by
  obtain ⟨i, hi, rfl⟩ := List.mem_map.1 hv
  exact h i (List.mem_range.1 hi)
set_option maxRecDepth 100000 in
theorem rowL_congr {n : Nat} {f g : Nat → Value} (h : ∀ i, i < n → f i = g i) : rowL n f = rowL n g := by
  unfold rowL
  apply List.map_congr_left
  intro i hi
  exact h i (List.mem_range.1 hi)
set_option maxRecDepth 100000 in
theorem rowA_congr {n : Nat} {f g : Nat → Value} (h : ∀ i, i < n → f i = g i) : rowA n f = rowA n g := by
  unfold rowA; rw [rowL_congr h]

/-- The n cells f lie in block b, and may be written. -/
structure RowAt (w : World) (b n : Nat) (f : Nat → Value) : Prop where
  cell : ∀ i, i < n → w.cell? ⟨b, i, none⟩ = some (f i)
  froz : ∀ i, i < n → w.frozen? ⟨b, i, none⟩ = false
section
variable {w w' : World} {b n : Nat} {f g : Nat → Value}
set_option maxRecDepth 100000 in
theorem RowAt.range (h : RowAt w b n f) : w.rangeAt b 0 (rowL n f) := fun j v hv => by
  have hj : j < n := by have := (List.getElem?_eq_some_iff.1 hv).1; rwa [rowL_len] at this
  rw [rowL_get n f j hj] at hv
  rw [Nat.zero_add, h.cell j hj, hv]
set_option maxRecDepth 100000 in
theorem RowAt.there (h : RowAt w b n f) : w.there b 0 n := fun j hj => by
  rw [Nat.zero_add, h.cell j hj, h.froz j hj]; exact ⟨rfl, rfl⟩
set_option maxRecDepth 100000 in
theorem RowAt.new (w : World) (n : Nat) (f : Nat → Value) (t : TypeId) : RowAt (w.alloc (.cells (rowA n f) t)) w.heap.size n f :=
  ⟨fun i h => by rw [World.cell?_alloc_new]; exact rowA_get n f i h, fun i _ => World.frozen?_alloc_new _ _ _ _⟩
set_option maxRecDepth 100000 in
theorem RowAt.past (h : RowAt w b n f) (hb : b < w.heap.size) (o : Obj) : RowAt (w.alloc o) b n f :=
  ⟨fun i hi => by rw [World.cell?_alloc_past _ _ _ hb]; exact h.cell i hi, fun i hi => by rw [World.frozen?_alloc_past _ _ _ hb]; exact h.froz i hi⟩
set_option maxRecDepth 100000 in
theorem RowAt.drew (h : RowAt w b n f) : RowAt w.drew b n f := ⟨h.cell, h.froz⟩
set_option maxRecDepth 100000 in
theorem RowAt.below {B : Nat} (h : RowAt w b n f) (hB : Below B w w') (hb : b < B) : RowAt w' b n f :=
  ⟨fun i hi => by rw [hB.cell (p := ⟨b, i, none⟩) hb]; exact h.cell i hi, fun i hi => by rw [hB.frozen (p := ⟨b, i, none⟩) hb]; exact h.froz i hi⟩
set_option maxRecDepth 100000 in
theorem RowAt.far (h : RowAt w b n f) (p : Addr) (hp : p.block ≠ b) (v : Value) : RowAt (w.setCell p v) b n f :=
  ⟨fun i hi => by rw [World.cell?_setCell_far _ _ _ _ hp]; exact h.cell i hi, fun i hi => by rw [World.frozen?_setCell]; exact h.froz i hi⟩
set_option maxRecDepth 100000 in
theorem RowAt.put (h : RowAt w b n f) (k : Nat) (hk : k < n) (x : Value) (hg : ∀ i, i < n → g i = if i = k then x else f i) : RowAt (w.setCell ⟨b, k, none⟩ x) b n g :=
  ⟨fun i hi => by
    rw [hg i hi]
    by_cases e : i = k
    · subst e
      rw [if_pos rfl, World.cell?_setCell_same' _ _ _ (by rw [h.cell i hi]; rfl)]
    · rw [if_neg e, World.cell?_setCell_other _ _ _ _ (by intro e'; injection e' with _ e2; exact e e2.symm), h.cell i hi],
   fun i hi => by rw [World.frozen?_setCell]; exact h.froz i hi⟩
set_option maxRecDepth 100000 in
theorem RowAt.congr (h : RowAt w b n f) (hg : ∀ i, i < n → f i = g i) : RowAt w b n g :=
  ⟨fun i hi => by rw [← hg i hi]; exact h.cell i hi, h.froz⟩
set_option maxRecDepth 100000 in
theorem RowAt.stored (h : w.there b 0 n) (g : Nat → Value) : RowAt (w.setCells b 0 (rowL n g)) b n g :=
  ⟨fun i hi => by
    have := World.rangeAt_setCells_same w b 0 (rowL n g) (by rw [rowL_len]; exact h) i (g i) (rowL_get n g i hi)
    rwa [Nat.zero_add] at this,
   fun i hi => by rw [World.frozen?_setCells]; have := (h i hi).2; rwa [Nat.zero_add] at this⟩
set_option maxRecDepth 100000 in
theorem RowAt.farAll (h : RowAt w b n f) {b' : Nat} (hb : b' ≠ b) (o : Nat) (vs : List Value) : RowAt (w.setCells b' o vs) b n f :=
  ⟨fun i hi => by rw [World.cell?_setCells_out b' vs o w ⟨b, i, none⟩ (fun e => absurd e.symm hb)]; exact h.cell i hi,
   fun i hi => by rw [World.frozen?_setCells]; exact h.froz i hi⟩
end
set_option maxRecDepth 100000 in
theorem belowCells {B : Nat} {w0 w : World} (h : Below B w0 w) {b : Nat} (hb : B ≤ b) : ∀ (o : Nat) (vs : List Value), Below B w0 (w.setCells b o vs) := fun o vs => by
  induction vs generalizing o w with
  | nil => exact h
  | cons v vs ih => exact ih (h.setCell (p := ⟨b, o, none⟩) hb v) (o + 1)

/-! arrays of a type t of n one-cell elements -/
section
variable {P : Program} {t : TypeId} {k e : Nat} {n : Nat} {w : World} {b : Nat} {f : Nat → Value}
set_option maxRecDepth 100000 in
theorem wpList_load_row (hu : P.underlying t = some (.array k e)) (hi : (P.info? t).map (·.size) = some n)
    {ops : Array Oper} {rest : List Oper} {op : Oper} {a : Act} {Q : Exit → Act → World → Prop} (hgd : op.guard = none) {x : Operand} (ho : op.op = .load t x)
    (hx : a.eval x = .pointer (some ⟨b, 0, none⟩)) (h : RowAt w b n f) (K : wpList P ops Q rest (a.put op.dst (.agg (rowA n f))) w) : wpList P ops Q (op :: rest) a w :=
  wpList_load_mid hgd t x ho b 0 hx (rowL n f) _ h.range hu rfl (by rw [rowL_len]; exact hi) K
set_option maxRecDepth 100000 in
theorem wpList_store_row (hi : (P.info? t).map (·.size) = some n) (h1 : ∀ i, i < n → (f i).oneCell' = true)
    {ops : Array Oper} {rest : List Oper} {op : Oper} {a : Act} {Q : Exit → Act → World → Prop} (hgd : op.guard = none) {x y : Operand} (ho : op.op = .store t x y)
    (hx : a.eval x = .pointer (some ⟨b, 0, none⟩)) (hy : a.eval y = .agg (rowA n f)) (h : w.there b 0 n) (K : wpList P ops Q rest (a.put op.dst undef) (w.setCells b 0 (rowL n f))) : wpList P ops Q (op :: rest) a w :=
  wpList_store_mid hgd t x y ho b 0 (rowA n f) hx hy (by rw [rowA_size]; exact h) (by rw [rowA_size]; exact hi) (all_oneCell_toArray (rowL_one h1)) K
set_option maxRecDepth 100000 in
theorem wpList_store_new (hi : (P.info? t).map (·.size) = some n) (h1 : ∀ i, i < n → (f i).oneCell' = true) {c : Array Value} (hc : c.size = n)
    {ops : Array Oper} {rest : List Oper} {op : Oper} {a : Act} {Q : Exit → Act → World → Prop} (hgd : op.guard = none) {x y : Operand} (ho : op.op = .store t x y)
    (hx : a.eval x = .pointer (some ⟨w.heap.size, 0, none⟩)) (hy : a.eval y = .agg (rowA n f)) (K : wpList P ops Q rest (a.put op.dst undef) (w.alloc (.cells (rowA n f) t))) : wpList P ops Q (op :: rest) a (w.alloc (.cells c t)) := by
  refine wpList_plain hgd fun _ hK => ?_
  unfold Oper.wp execOp
  have e := run_storeAt_new (P := P) w t c (rowA n f) (by rw [rowA_size]; exact hi) (by rw [rowA_size]; exact hc) (all_oneCell_toArray (rowL_one h1))
  simp only [ho, hx, hy, Sem.run_bind, e, Sem.run_pure, Result.andThen_ok]
  exact hK _ _ K
set_option maxRecDepth 100000 in
theorem results_row (hu : P.underlying t = some (.array k e)) (hi : (P.info? t).map (·.size) = some n)
    {fn : Func} {p : Tmp} (hr : fn.results = #[.cell p t]) {tmps : Array Value} (hp : tmps[p]?.getD undef = .pointer (some ⟨b, 0, none⟩)) (h : RowAt w b n f) :
    (results fn tmps).run P w = .ok (.agg (rowA n f)) w := by
  have e := run_loadVar_mid w b 0 t (rowL n f) _ h.range hu rfl (by rw [rowL_len]; exact hi)
  simp only [results, hr]
  simp [hp, asAddr, e, rowA]
end
end
/- fullBytes and Bytes of package value. -/
section
open Go.RowKit

/-- Byte j of a, the lowest one first. -/
def byteOf (a j : Nat) : Int := ((a / 2 ^ (8 * j) % 256 : Nat) : Int)
structure FullAt (w : World) (a k : Nat) (w' : World) : Prop where
  below : Below w.heap.size w w'
  size : w.heap.size + 3 ≤ w'.heap.size
  h0 : w'.cell? ⟨w.heap.size, 0, none⟩ = some (.int .u64 (hi a))
  h1 : w'.cell? ⟨w.heap.size, 1, none⟩ = some (.int .u64 (lo a))
  res : RowAt w' (w.heap.size + 1) 16 fun _ => .int .u8 0
  out : RowAt w' (w.heap.size + 2) 16 fun i => .int .u8 (if i < k then byteOf a (15 - i) else 0)

set_option maxRecDepth 100000 in
theorem byte_conv (a j : Nat) : lo (a / 2 ^ (8 * j)) % 256 = byteOf a j := by
  unfold lo byteOf
  omega

/-- How many bytes the canonical string of a has. -/
def nb (a : Nat) : Nat := max 1 ((bitLen a + 7) / 8)
set_option maxRecDepth 100000 in
theorem nb_le (a : Nat) (ha : a < 2 ^ 128) : nb a ≤ 16 := by have := len_le a ha; unfold nb; omega
set_option maxRecDepth 100000 in
theorem nb_pos (a : Nat) : 1 ≤ nb a := by unfold nb; omega
/-- The canonical bytes of a, as cells. -/
def byteCells (a : Nat) : List Value := rowL (nb a) fun i => .int .u8 (byteOf a (nb a - 1 - i))
set_option maxRecDepth 100000 in
theorem max_nb (a : Nat) : max (1 : Int) (((bitLen a : Int) + 8 - 1) / 8) = nb a := by
  unfold nb
  omega
set_option maxRecDepth 100000 in
theorem byteCells_len (a : Nat) : (byteCells a).length = nb a := rowL_len _ _
/-- The call returns a row of its own that holds these cells; nothing that there was is changed. -/
def RetRow (e : TypeId) (xs : List Value) (w : World) (en : Ending) (w' : World) : Prop := ∃ v, en = .returned v ∧ w'.ownsRow w.heap.size e 1 v xs.length xs ∧ Below w.heap.size w w'

set_option maxRecDepth 100000 in
theorem info_u8 : (Tryz.prog.info? 5).map (fun i => (i.zero, i.size, i.bytes)) = some (some (.int .u8 0), 1, 1) := by kernel_rfl
end
end Go.Proofs.YtldgjahpmlafgaaGreat
