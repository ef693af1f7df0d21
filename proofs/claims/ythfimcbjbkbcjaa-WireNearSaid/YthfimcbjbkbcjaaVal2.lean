/- The calls of package value that call others: what each returns. -/
import Derived.Test.YthfimcbjbkbcjaaVal
import Derived.Deep.RegionHeld3
import Derived.Deep.QuietTactic
import Derived.BigQuiet
import Derived.StillTailTactics
import Derived.Lib.Walk
import Derived.Deep.Light
namespace Go.Proofs.Ythfimcbjbkbcjaa
open Go.RowKit

set_option maxHeartbeats 400000 in
theorem right_any (a : Nat) (n : Int) (ha : a < 2 ^ 128) (hn : n ≤ 9223372036854775807) (w : World) :
    Calls Try.prog 74 #[.agg #[.int .u64 (hi a), .int .u64 (lo a)], .int .i64 n] w (RetV (a / 2 ^ n.toNat) w) := by
  by_cases h1 : n ≤ 0
  · have e : n.toNat = 0 := by omega
    rw [e, Nat.pow_zero, Nat.div_one]
    clear e
    go_enter Try.func74, Try.ntmps74
    go_wp2
    refine bodyPost_ret (v := .agg #[.int .u64 (hi a), .int .u64 (lo a)]) (by simp [results, Try.results74, go_sem]) rfl ⟨rfl, ?_⟩
    exact ((Below.refl _ _).alloc (by simp) _).alloc (by simp) _
  · obtain ⟨k, rfl⟩ := Int.eq_ofNat_of_zero_le (show 0 ≤ n by omega)
    rw [Int.toNat_natCast]
    have k0 : 0 < (k : Int) := by omega
    by_cases h2 : (64 : Int) ≤ k
    · have H1 := Lib.hid (right_lo_big a k (by omega) ha)
      have H2 := Lib.hid (right_hi_big a k (by omega) ha)
      clear ha
      go_enter Try.func74, Try.ntmps74
      go_wp2
      refine bodyPost_ret (v := .agg #[.int .u64 (hi (a / 2 ^ k)), .int .u64 (lo (a / 2 ^ k))]) (by rw [← H1.out, ← H2.out]; simp [results, Try.results74, go_sem]) rfl ⟨rfl, ?_⟩
      exact ((Below.refl _ _).alloc (by simp) _).alloc (by simp) _
    · have h3 : (k : Int) < 64 := by omega
      have H1 := Lib.hid (right_lo_small a k (by omega) (by omega))
      have H2 := Lib.hid (right_hi_small a k (by omega) ha)
      clear ha h2
      go_enter Try.func74, Try.ntmps74
      go_wp2
      refine bodyPost_ret (v := .agg #[.int .u64 (hi (a / 2 ^ k)), .int .u64 (lo (a / 2 ^ k))]) (by rw [← H1.out, ← H2.out]; simp [results, Try.results74, go_sem, IntKind.wrap_u64]) rfl ⟨rfl, ?_⟩
      exact ((Below.refl _ _).alloc (by simp) _).alloc (by simp) _

set_option maxHeartbeats 400000 in
theorem left_any (a : Nat) (n : Int) (ha : a < 2 ^ 128) (hn : n ≤ 9223372036854775807) (w : World) :
    Calls Try.prog 72 #[.agg #[.int .u64 (hi a), .int .u64 (lo a)], .int .i64 n] w (RetV (vleft a n.toNat) w) := by
  by_cases h1 : n ≤ 0
  · have e : n.toNat = 0 := by omega
    rw [e, vleft, Nat.pow_zero, Nat.mul_one, Nat.mod_eq_of_lt ha]
    clear e
    go_enter Try.func72, Try.ntmps72
    go_wp2
    refine bodyPost_ret (v := .agg #[.int .u64 (hi a), .int .u64 (lo a)]) (by simp [results, Try.results72, go_sem]) rfl ⟨rfl, ?_⟩
    exact ((Below.refl _ _).alloc (by simp) _).alloc (by simp) _
  · obtain ⟨k, rfl⟩ := Int.eq_ofNat_of_zero_le (show 0 ≤ n by omega)
    rw [Int.toNat_natCast]
    have k0 : 0 < (k : Int) := by omega
    clear ha
    by_cases h2 : (64 : Int) ≤ k
    · have H1 := Lib.hid (left_hi_big a k (by omega))
      have H2 := Lib.hid (left_lo_big a k (by omega))
      go_enter Try.func72, Try.ntmps72
      go_wp2
      refine bodyPost_ret (v := .agg #[.int .u64 (hi (vleft a k)), .int .u64 (lo (vleft a k))]) (by rw [vleft, ← H1.out, ← H2.out]; simp [results, Try.results72, go_sem, IntKind.wrap_u64]) rfl ⟨rfl, ?_⟩
      exact ((Below.refl _ _).alloc (by simp) _).alloc (by simp) _
    · have h3 : (k : Int) < 64 := by omega
      have H1 := Lib.hid (left_hi_small a k (by omega) (by omega))
      have H2 := Lib.hid (left_lo_small a k)
      clear h2
      go_enter Try.func72, Try.ntmps72
      go_wp2
      refine bodyPost_ret (v := .agg #[.int .u64 (hi (vleft a k)), .int .u64 (lo (vleft a k))]) (by rw [vleft, ← H1.out, ← H2.out]; simp [results, Try.results72, go_sem, IntKind.wrap_u64]) rfl ⟨rfl, ?_⟩
      exact ((Below.refl _ _).alloc (by simp) _).alloc (by simp) _

/-- The table's byte at y. -/
theorem len8_get (y : Int) (h : y.toNat < Lib.len8tab.size) : ((Lib.len8tab[y.toNat]'h).toNat : Int) = Lib.len8 y := by
  unfold Lib.len8
  rw [getElem?_pos Lib.len8tab y.toNat h]
  rfl
theorem wrap_add (k a b : Nat) (hk : k ≤ 56) (ha : a ≤ 8) (hb : b = k + a) : wrap64 ((k : Int) + wrap64 (a : Int)) = (b : Int) := by
  unfold wrap64
  omega
theorem wrap_two (a : Nat) (ha : a ≤ 8) : wrap64 (wrap64 (a : Int)) = (a : Int) := by
  unfold wrap64
  omega
/-- ... behind the sum with k. -/
theorem len_fin (k d : Nat) (hd : d = 2 ^ k) (x y : Int) (h0 : 0 ≤ x) (h1 : x < 18446744073709551616) (hk : k ≤ 56) (h2 : y.toNat = x.toNat / d) (h3 : 0 ≤ y) (h4 : y < 256) (h5 : d ≤ x.toNat) (h : y.toNat < Lib.len8tab.size) :
    wrap64 ((k : Int) + wrap64 ((Lib.len8tab[y.toNat]'h).toNat : Int)) = (Lib.bitLen x.toNat : Int) := by
  rw [len8_get y h, Lib.len8_of y h3 (by omega)]
  have l := Lib.bitLen_le8' y h3 (by omega)
  have s := Lib.bitLen_shift k x.toNat (hd ▸ h5) (by omega)
  rw [← hd, ← h2] at s
  exact wrap_add k _ _ hk l s
theorem len_fin0 (x : Int) (h3 : 0 ≤ x) (h4 : x < 256) (h : x.toNat < Lib.len8tab.size) :
    wrap64 (wrap64 ((Lib.len8tab[x.toNat]'h).toNat : Int)) = (Lib.bitLen x.toNat : Int) := by
  rw [len8_get x h, Lib.len8_of x h3 (by omega)]
  exact wrap_two _ (Lib.bitLen_le8' x h3 (by omega))

set_option maxHeartbeats 4000000 in
set_option maxRecDepth 100000 in
theorem len64_any (x : Int) (w : World) (h0 : 0 ≤ x) (h1 : x ≤ 18446744073709551615) :
    Calls Try.prog 75 #[.int .u64 x] w fun e w' => e = .returned (.int .i64 (Lib.bitLen x.toNat)) ∧ w = w' := by
  go_enter Try.func75, Try.ntmps75
  go_wp2
  all_goals first
    | (go_ret; refine ⟨congrArg Ending.returned (congrArg (Value.int IntKind.i64) ?_), rfl⟩; go_light)
    | (exfalso
       go_light
       have hs := Lib.len8tab_size
       omega)
  · exact len_fin 56 72057594037927936 (by decide) x (x / 4294967296 / 65536 / 256) h0 (by omega) (by decide) (by omega) (by omega) (by omega) (by omega) _
  · exact len_fin 48 281474976710656 (by decide) x (x / 4294967296 / 65536) h0 (by omega) (by decide) (by omega) (by omega) (by omega) (by omega) _
  · exact len_fin 40 1099511627776 (by decide) x (x / 4294967296 / 256) h0 (by omega) (by decide) (by omega) (by omega) (by omega) (by omega) _
  · exact len_fin 32 4294967296 (by decide) x (x / 4294967296) h0 (by omega) (by decide) (by omega) (by omega) (by omega) (by omega) _
  · exact len_fin 24 16777216 (by decide) x (x / 65536 / 256) h0 (by omega) (by decide) (by omega) (by omega) (by omega) (by omega) _
  · exact len_fin 16 65536 (by decide) x (x / 65536) h0 (by omega) (by decide) (by omega) (by omega) (by omega) (by omega) _
  · exact len_fin 8 256 (by decide) x (x / 256) h0 (by omega) (by decide) (by omega) (by omega) (by omega) (by omega) _
  · exact len_fin0 x h0 (by omega) _
end Go.Proofs.Ythfimcbjbkbcjaa
