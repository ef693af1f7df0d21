/- take of package wire. -/
import Derived.Test.YthfimcbjbkbcjaaWPure
namespace Go.Proofs.Ythfimcbjbkbcjaa
open Go.RowKit

theorem take_short (R k : Nat) (A : Option Addr) (n cap : Nat) (w : World) (hc : w.cell? ⟨R, 0, none⟩ = some (.slice A n cap)) (h : n < k) :
    Calls Try.prog 60 #[.pointer (some ⟨R, 0, none⟩), .int .i64 k] w fun e w' => e = .returned (.tuple #[.slice none 0 0, .int .i64 1]) ∧ w = w' := by
  have h1 : (n : Int) < (k : Int) := by omega
  go_enter Try.func60, Try.ntmps60
  go_wp2
  go_ret2
  exact ⟨rfl, rfl⟩
theorem take_ok (R k : Nat) (A : Option Addr) (n cap : Nat) (w : World) (hc : w.cell? ⟨R, 0, none⟩ = some (.slice A n cap)) (hf : w.frozen? ⟨R, 0, none⟩ = false) (h : k ≤ n) (hn : n ≤ cap) :
    Calls Try.prog 60 #[.pointer (some ⟨R, 0, none⟩), .int .i64 k] w fun e w' => e = .returned (.tuple #[.slice A k cap, .int .i64 0]) ∧ w' = w.setCell ⟨R, 0, none⟩ (.slice (cutA A cap k) (n - k) (cap - k)) := by
  have h1 : decide ((n : Int) < (k : Int)) = false := by simp; omega
  have h2 : (k : Int) ≤ (n : Int) := by omega
  have h3 : (n : Int) ≤ (cap : Int) := by omega
  have h4 : (k : Int) ≤ (cap : Int) := by omega
  go_enter Try.func60, Try.ntmps60
  go_wp2
  all_goals go_ret2
  all_goals refine ⟨rfl, ?_⟩
  all_goals simp [cutA, *]

theorem isuint_yes (k : Nat) (w : World) (h1 : 1 ≤ k) (h2 : k ≤ 4) : Calls Try.prog 52 #[.int .i64 k] w fun e w' => e = .returned (.bool true) ∧ w = w' := by
  have h3 : 1 ≤ (k : Int) := by omega
  have h4 : (k : Int) ≤ 4 := by omega
  go_enter Try.func52, Try.ntmps52
  go_wp2
  go_ret
  exact ⟨by simp [*], rfl⟩
theorem ruint_bad (v : Value) (k : Int) (w : World) (h : k < 1 ∨ 4 < k) (h1 : -9223372036854775808 ≤ k) (h2 : k ≤ 9223372036854775807) :
    Calls Try.prog 40 #[v, .int .i64 k] w fun e w' => e = .returned (.tuple #[.int .i64 0, .int .i64 4]) ∧ w = w' := by
  rcases h with h | h
  · have h3 : decide (1 ≤ k) = false := by simp; omega
    clear h
    go_enter Try.func40, Try.ntmps40
    go_wp2
    go_ret2
    exact ⟨rfl, rfl⟩
  · have h3 : decide (k ≤ 4) = false := by simp; omega
    have h4 : 1 ≤ k := by omega
    clear h
    go_enter Try.func40, Try.ntmps40
    go_wp2
    go_ret2
    exact ⟨rfl, rfl⟩
theorem ruint_short (R k : Nat) (A : Option Addr) (n cap : Nat) (w : World) (hc : w.cell? ⟨R, 0, none⟩ = some (.slice A n cap)) (hk1 : 1 ≤ k) (hk2 : k ≤ 4) (h : n < k) :
    Calls Try.prog 40 #[.pointer (some ⟨R, 0, none⟩), .int .i64 k] w fun e w' => e = .returned (.tuple #[.int .i64 0, .int .i64 1]) ∧ w = w' := by
  go_enter Try.func40, Try.ntmps40
  go_wp2_with (first | (go_at_call 52; refine (isuint_yes k _ hk1 hk2).mono ?_; rintro e w' ⟨rfl, rfl⟩) | (go_at_call 60; refine (take_short R k A n cap _ hc h).mono ?_; rintro e w' ⟨rfl, rfl⟩))
  go_loop [8, 10, 22] (fun m _ i => m = .int .i64 0 ∧ i = .int .i64 0) (fun _ _ _ => 0)
  case atStart => exact ⟨rfl, rfl⟩
  case round =>
    obtain ⟨rfl, rfl⟩ := hrel
    go_wp2
    go_ret2
    exact ⟨rfl, rfl⟩
theorem ruint_ok (R D k : Nat) (l : List Nat) (e : Int) (A : Option Addr) (n cap : Nat) (w : World) (hR : RdAt w R D l e A n cap) (hk1 : 1 ≤ k) (hk2 : k ≤ 4) (h : k ≤ n) :
    Calls Try.prog 40 #[.pointer (some ⟨R, 0, none⟩), .int .i64 k] w fun e w' => e = .returned (.tuple #[.int .i64 (num (l.take k)), .int .i64 0]) ∧
      w' = w.setCell ⟨R, 0, none⟩ (.slice (cutA A cap k) (n - k) (cap - k)) := by
  obtain ⟨o, rfl, hb, hc⟩ := hR.reads.resolve_left (fun e => by have := hR.len; rw [e] at this; simp at this; omega)
  have HL := Lib.hid hR.len
  have HR := Lib.hid hR
  have HC := Lib.hid hc
  clear hc
  go_enter Try.func40, Try.ntmps40
  go_wp2_with (first | (go_at_call 52; refine (isuint_yes k _ hk1 hk2).mono ?_; rintro e w' ⟨rfl, rfl⟩) | (go_at_call 60; refine (take_ok R k _ n cap _ HR.out.c0 HR.out.f0 h HR.out.le).mono ?_; rintro e w' ⟨rfl, rfl⟩))
  have hc2 : ∀ i, i < k → (w.setCell ⟨R, 0, none⟩ (.slice (cutA (some ⟨D, o, none⟩) cap k) (n - k) (cap - k))).cell? ⟨D, o + i, none⟩ = some (.int .u8 (l.getD i 0)) := fun i hi => by
    rw [World.cell?_setCell_far _ _ _ _ (fun e => HR.out.apart e.symm)]
    exact HC.out i (by have := HL.out; omega)
  have HC2 := Lib.hid hc2
  clear hc2
  generalize hW : w.setCell _ _ = W at HC2 ⊢
  have HW := Lib.hid hW
  clear hW
  go_loop [8, 10, 22] (fun m x i => ∃ j : Nat, j ≤ k ∧ i = .int .i64 j ∧ m = .int .i64 (num (l.take j))) (fun _ _ i => k - (intOf i).toNat)
  case atStart => exact ⟨0, by omega, rfl, rfl⟩
  case round =>
    obtain ⟨j, hj, rfl, rfl⟩ := hrel
    by_cases hlt : j < k
    · have i0 := HC2.out j hlt
      have hx := HR.out.small.getD j
      have hm := num_lt l HR.out.small j (by have := HL.out; omega)
      have hm2 : num (l.take j) < 16777216 := Nat.lt_of_lt_of_le hm (Nat.pow_le_pow_right (n := 256) (by decide) (show j ≤ 3 by omega))
      have HN := Lib.hid (num_take l j (by have := HL.out; omega))
      generalize num (l.take j) = v at *
      generalize l.getD j 0 = x at *
      have hlt' : (j : Int) < (k : Int) := by omega
      clear hm
      go_wp2
      rw [i64_or_byte v x (by omega) hx]
      go_round
      case rel => exact ⟨j + 1, by omega, by simp, by rw [HN.out]⟩
      case measure => simp [intOf]; omega
    · obtain rfl : j = k := by omega
      go_wp2
      go_ret2
      exact ⟨rfl, HW.out.symm⟩
end Go.Proofs.Ythfimcbjbkbcjaa