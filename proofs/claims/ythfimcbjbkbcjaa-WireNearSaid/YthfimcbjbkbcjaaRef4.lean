/- matchguardref01: Bit, Len, Fits: what they return. -/
import Derived.Test.YthfimcbjbkbcjaaRef3
namespace Go.Proofs.Ythfimcbjbkbcjaa
open Go.RowKit

theorem index_bits (f : Nat → Bool) (i : Nat) (h : i < 128) (w : World) :
    (Instr.index 86 (.agg (bitsA f)) (.int .i64 (i : Int))).run Try.prog w = .ok (.bool (f i)) w := by
  have hs : (sizeOf 4).run Try.prog w = .ok 1 w := by kernel_rfl
  have ha : (isAgg 4).run Try.prog w = .ok false w := by kernel_rfl
  have hi : (0 : Int) ≤ (i : Int) ∧ (i : Int) < ((128 : Nat) : Int) := by omega
  simp only [Instr.index, asIntOf, Sem.run_bind, Sem.run_pure, Result.andThen, run_underlying Try.underlying86]
  rw [if_pos hi]
  simp only [part, Sem.run_bind, ha, hs, Result.andThen, Int.toNat_natCast, Nat.mul_one, bitsA_get f i h]
  rfl

theorem bit_off (a : Nat) (n : Int) (ha : a < 2 ^ 128) (h : ¬ (0 ≤ n ∧ n < 128)) : (decide (0 ≤ n) && a.testBit n.toNat) = false := by
  by_cases h0 : 0 ≤ n
  · have := Nat.testBit_lt_two_pow (x := a) (i := n.toNat) (Nat.lt_of_lt_of_le ha (Nat.pow_le_pow_right (by decide) (by omega)))
    simp [this]
  · simp [h0]
theorem bitLen_at (a k : Nat) (h : a.testBit k = true) (hall : ∀ i, k < i → a.testBit i = false) : bitLen a = k + 1 := by
  have h1 : 2 ^ k ≤ a := Nat.ge_two_pow_of_testBit h
  have h2 : a < 2 ^ (k + 1) := Nat.lt_pow_two_of_testBit _ fun i hi => hall i (by omega)
  have h0 : a ≠ 0 := by have := Nat.two_pow_pos k; omega
  unfold bitLen
  rw [if_neg h0, (Nat.log2_eq_iff h0).2 ⟨h1, h2⟩]
theorem bitLen_none (a : Nat) (hall : ∀ i, a.testBit i = false) : bitLen a = 0 := by
  have : a = 0 := Nat.eq_of_testBit_eq fun i => by rw [hall i]; simp
  subst this
  rfl
/-- Where the search for the highest bit is: all bits from k on are 0. -/
structure LenAt (w : World) (a k : Nat) (w' : World) : Prop where
  below : Below w.heap.size w w'
  size : w.heap.size + 1 ≤ w'.heap.size
  c0 : w'.cell? ⟨w.heap.size, 0, none⟩ = some (.int .u64 (hi a))
  c1 : w'.cell? ⟨w.heap.size, 1, none⟩ = some (.int .u64 (lo a))
  none : ∀ i, k ≤ i → a.testBit i = false

set_option maxRecDepth 100000 in
set_option maxHeartbeats 1000000 in
theorem rlen_any (a : Nat) (ha : a < 2 ^ 128) (w : World) :
    Calls Try.prog 70 #[.agg #[.int .u64 (hi a), .int .u64 (lo a)]] w (RetX (.int .i64 (bitLen a)) w) := by
  have hn : ∀ i, 128 ≤ i → a.testBit i = false := fun i hi => Nat.testBit_lt_two_pow (Nat.lt_of_lt_of_le ha (Nat.pow_le_pow_right (by decide) hi))
  clear ha
  have Hn := Lib.hid hn
  clear hn
  go_enter Try.func70, Try.ntmps70
  go_wp2
  go_loopw [3] (fun i w' => ∃ k : Nat, k ≤ 128 ∧ i = .int .i64 ((k : Int) - 1) ∧ LenAt w a k w') (fun i _ => (intOf i + 1).toNat)
  case atStart => exact ⟨128, by omega, rfl, (Below.refl _ _).alloc (by simp) _, by simp, by simp [go_sem], by simp [go_sem], Hn.out⟩
  case round =>
    obtain ⟨k, hk, rfl, hR⟩ := hrel
    clear Hn
    have c0 := hR.c0
    have c1 := hR.c1
    by_cases hlt : 0 < k
    · obtain ⟨j, rfl⟩ : ∃ j, k = j + 1 := ⟨k - 1, by omega⟩
      have sub : ((j + 1 : Nat) : Int) - 1 = (j : Int) := by omega
      rw [sub]
      have hj : j < 128 := by omega
      cases hb : a.testBit j
      · have HB := Lib.hid hb
        clear sub
        go_wp2_with (first | (go_at_call 69; refine (read_any _ _).mono ?_; rintro e w1 ⟨rfl, hx⟩) | simp only [index_bits a.testBit j hj, HB.out])
        go_roundw
        all_goals go_light
        case measure => simp [intOf]
        have hs := hR.size
        refine ⟨j, by omega, by simp, hR.below.trans (hx.mono hR.below.size), Nat.le_trans hs hx.size, ?_, ?_, fun i hi => ?_⟩
        · rw [hx.cell (p := ⟨_, _, none⟩) (by simp; omega)]; exact c0
        · rw [hx.cell (p := ⟨_, _, none⟩) (by simp; omega)]; exact c1
        · by_cases e : i = j
          · subst e; exact HB.out
          · exact hR.none i (by omega)
      · have HB := Lib.hid hb
        clear sub hb
        go_wp2_with (first | (go_at_call 69; refine (read_any _ _).mono ?_; rintro e w1 ⟨rfl, hx⟩) | simp only [index_bits a.testBit j hj, HB.out])
        go_light
        rw [bitLen_at a j HB.out (fun i hi => hR.none i (by omega))]
        go_ret
        exact ⟨by simp, hR.below.trans (hx.mono hR.below.size)⟩
    · have e : k = 0 := by omega
      subst e
      go_wp2
      go_light
      rw [bitLen_none a (fun i => hR.none i (by omega))]
      go_ret
      exact ⟨rfl, hR.below⟩

end Go.Proofs.Ythfimcbjbkbcjaa
