/- matchguardref06: part, word, symbol. -/
import Derived.Test.YtoiofbpmgihkfaaDoorLScan
namespace Go.Proofs.YtoiofbpmgihkfaaDoor
open Go.RowKit

set_option maxRecDepth 100000 in
set_option maxHeartbeats 2000000 in
theorem lr_part (c : Nat) (w : World) : Calls Tryd.prog 45 #[.int .u8 c] w fun e w' => e = .returned (.bool (isWd c)) ∧ w = w' := by
  have hcases : (97 ≤ c ∧ c ≤ 122) ∨ (48 ≤ c ∧ c ≤ 57) ∨ c = 95 ∨ (c < 48) ∨ (58 ≤ c ∧ c ≤ 94) ∨ c = 96 ∨ 123 ≤ c := by omega
  have fin : ∀ b : Bool, isWd c = b → (b = true ↔ ((97 ≤ c ∧ c ≤ 122) ∨ (48 ≤ c ∧ c ≤ 57) ∨ c = 95)) := fun b hb => by
    rw [← hb]; unfold isWd isL isD
    simp only [Bool.or_eq_true, Bool.and_eq_true, decide_eq_true_eq]
  obtain ⟨b, hb⟩ : ∃ b, isWd c = b := ⟨_, rfl⟩
  have hb2 := fin b hb
  rw [hb]
  clear fin hb
  have z1 : ((c : Int) == 95) = decide (c = 95) := by
    by_cases h : c = 95
    · subst h; rfl
    · rw [decide_eq_false h, beq_eq_false_iff_ne]; omega
  rcases hcases with h | h | h | h | h | h | h
  · obtain rfl : b = true := hb2.2 (.inl h)
    have g1 : (97 : Int) ≤ (c : Int) := by omega
    have g2 : (c : Int) ≤ 122 := by omega
    have n1 := h.1
    have n2 := h.2
    clear hb2 z1 h
    go_enter Tryd.func45, Tryd.ntmps45
    go_wp2
    go_ret
    exact ⟨rfl, rfl⟩
  · obtain rfl : b = true := hb2.2 (.inr (.inl h))
    have g1 : ¬ (97 : Int) ≤ (c : Int) := by omega
    have g2 : (48 : Int) ≤ (c : Int) := by omega
    have g3 : (c : Int) ≤ 57 := by omega
    have n1 : ¬ 97 ≤ c := by omega
    have n2 := h.1
    have n3 := h.2
    clear hb2 z1 h
    go_enter Tryd.func45, Tryd.ntmps45
    go_wp2
    go_ret
    exact ⟨rfl, rfl⟩
  · obtain rfl : b = true := hb2.2 (.inr (.inr h))
    subst h
    clear hb2 z1
    go_enter Tryd.func45, Tryd.ntmps45
    go_wp2
    go_ret
    exact ⟨rfl, rfl⟩
  · obtain rfl : b = false := by cases b; rfl; have := hb2.1 rfl; omega
    have g1 : ¬ (97 : Int) ≤ (c : Int) := by omega
    have g2 : ¬ (48 : Int) ≤ (c : Int) := by omega
    have n1 : ¬ 97 ≤ c := by omega
    have n2 : ¬ 48 ≤ c := by omega
    rw [decide_eq_false (by omega)] at z1
    clear hb2 h
    go_enter Tryd.func45, Tryd.ntmps45
    go_wp2
    go_ret
    exact ⟨rfl, rfl⟩
  · obtain rfl : b = false := by cases b; rfl; have := hb2.1 rfl; omega
    have g1 : ¬ (97 : Int) ≤ (c : Int) := by omega
    have g2 : (48 : Int) ≤ (c : Int) := by omega
    have g3 : ¬ (c : Int) ≤ 57 := by omega
    have n1 : ¬ 97 ≤ c := by omega
    have n2 : 48 ≤ c := by omega
    have n3 : ¬ c ≤ 57 := by omega
    rw [decide_eq_false (by omega)] at z1
    clear hb2 h
    go_enter Tryd.func45, Tryd.ntmps45
    go_wp2
    go_ret
    exact ⟨rfl, rfl⟩
  · obtain rfl : b = false := by cases b; rfl; have := hb2.1 rfl; omega
    subst h
    clear hb2 z1
    go_enter Tryd.func45, Tryd.ntmps45
    go_wp2
    go_ret
    exact ⟨rfl, rfl⟩
  · obtain rfl : b = false := by cases b; rfl; have := hb2.1 rfl; omega
    have g1 : (97 : Int) ≤ (c : Int) := by omega
    have g2 : ¬ (c : Int) ≤ 122 := by omega
    have g3 : (48 : Int) ≤ (c : Int) := by omega
    have g4 : ¬ (c : Int) ≤ 57 := by omega
    have n1 : 97 ≤ c := by omega
    have n2 : ¬ c ≤ 122 := by omega
    have n3 : 48 ≤ c := by omega
    have n4 : ¬ c ≤ 57 := by omega
    rw [decide_eq_false (by omega)] at z1
    clear hb2 h
    go_enter Tryd.func45, Tryd.ntmps45
    go_wp2
    go_ret
    exact ⟨rfl, rfl⟩
set_option maxRecDepth 100000 in
set_option maxHeartbeats 2000000 in
theorem lr_word (s : ByteArray) (hs : s.size < 9223372036854775807) (w : World) :
    Calls Tryd.prog 30 #[.string s] w fun e w' => e = .returned (.int .i64 (wrun s 0 : Nat)) ∧ w = w' := by
  go_enter Tryd.func30, Tryd.ntmps30
  go_wp2
  go_loopw [3] (fun i w' => ∃ k : Nat, k ≤ s.size ∧ i = .int .i64 k ∧ Hid (k + wrun s k = wrun s 0) ∧ w = w') (fun i _ => s.size - (intOf i).toNat)
  case atStart => exact ⟨0, Nat.zero_le _, rfl, Lib.hid (Nat.zero_add _), rfl⟩
  case round =>
    obtain ⟨k, hk, rfl, HE, rfl⟩ := hrel
    by_cases hlt : k < s.size
    · have h1 : (k : Int) < (s.size : Int) := by omega
      obtain ⟨c, hc⟩ : ∃ c, bt s k = c := ⟨_, rfl⟩
      have hbyte : (s[k]'hlt).toNat = c := by rw [bt_at, hc]
      obtain ⟨b, hb⟩ : ∃ b, isWd c = b := ⟨_, rfl⟩
      have KW : Hid (∀ W, Calls Tryd.prog 45 #[.int .u8 (c : Int)] W fun e w' => e = .returned (.bool b) ∧ W = w') := Lib.hid fun W => by rw [← hb]; exact lr_part c W
      have HC := Lib.hid hc
      have HBb := Lib.hid hb
      clear hc hb
      cases b
      · have hfin : wrun s 0 = k := by
          have h0 := wrun_stop s k (fun h => by have := h.2; rw [HC.out, HBb.out] at this; cases this)
          have := HE.out; omega
        have HFIN := Lib.hid hfin
        clear hfin
        go_wp2_with (go_at_call 45; refine (KW.out _).mono ?_; rintro e w1 ⟨rfl, rfl⟩)
        go_ret
        exact ⟨by rw [HFIN.out]; rfl, rfl⟩
      · have hst := wrun_step s k hlt (by rw [HC.out]; exact HBb.out)
        have HST := Lib.hid hst
        clear hst
        go_wp2_with (go_at_call 45; refine (KW.out _).mono ?_; rintro e w1 ⟨rfl, rfl⟩)
        go_roundw
        case rel => (go_light; exact ⟨k + 1, by omega, by simp, Lib.hid (by have := HE.out; have := HST.out; omega), by trivial⟩)
        case measure => simp [intOf]; omega
    · have h1 : ¬ (k : Int) < (s.size : Int) := by omega
      have hfin : wrun s 0 = k := by
        have h0 := wrun_stop s k (fun h => hlt h.1)
        have := HE.out; omega
      have HFIN := Lib.hid hfin
      clear hfin
      go_wp2
      go_ret
      exact ⟨by rw [HFIN.out]; rfl, rfl⟩
def symsA : Array Value := #[.string ⟨#[38, 38]⟩, .string ⟨#[124, 124]⟩, .string ⟨#[45, 62]⟩, .string ⟨#[61, 61]⟩, .string ⟨#[33, 61]⟩, .string ⟨#[60, 61]⟩, .string ⟨#[62, 61]⟩, .string ⟨#[58, 58]⟩, .string ⟨#[40]⟩, .string ⟨#[41]⟩, .string ⟨#[33]⟩, .string ⟨#[60]⟩, .string ⟨#[62]⟩, .string ⟨#[43]⟩, .string ⟨#[45]⟩]
theorem symsA_lit : symsA = #[.string ⟨#[38, 38]⟩, .string ⟨#[124, 124]⟩, .string ⟨#[45, 62]⟩, .string ⟨#[61, 61]⟩, .string ⟨#[33, 61]⟩, .string ⟨#[60, 61]⟩, .string ⟨#[62, 61]⟩, .string ⟨#[58, 58]⟩, .string ⟨#[40]⟩, .string ⟨#[41]⟩, .string ⟨#[33]⟩, .string ⟨#[60]⟩, .string ⟨#[62]⟩, .string ⟨#[43]⟩, .string ⟨#[45]⟩] := rfl
theorem symsA_at : ∀ i, i < 15 → symsA[i]? = some (.string (symK i)) := by
  intro i hi
  have h : i = 0 ∨ i = 1 ∨ i = 2 ∨ i = 3 ∨ i = 4 ∨ i = 5 ∨ i = 6 ∨ i = 7 ∨ i = 8 ∨ i = 9 ∨ i = 10 ∨ i = 11 ∨ i = 12 ∨ i = 13 ∨ i = 14 := by omega
  rcases h with rfl | rfl | rfl | rfl | rfl | rfl | rfl | rfl | rfl | rfl | rfl | rfl | rfl | rfl | rfl <;> rfl
/-- how long the symbol is with which a text begins -/
def symLen (t : ByteArray) : Nat := match symL.find? (fun x => hpB t x) with
  | some x => x.size
  | none => 0
set_option maxRecDepth 100000 in
set_option maxHeartbeats 4000000 in
theorem lr_symbol (t : ByteArray) (_hs : t.size < 9223372036854775807) (w : World) :
    Calls Tryd.prog 29 #[.string t] w (RetX (.int .i64 (symLen t : Nat)) w) := by
  obtain ⟨n, hn⟩ : ∃ n, symLen t = n := ⟨_, rfl⟩
  rw [hn]
  have HN := Lib.hid hn
  clear hn
  go_enter Tryd.func29, Tryd.ntmps29
  go_wp2
  rw [← symsA_lit]
  have hW : Hid (Below w.heap.size w (w.alloc (.cells symsA 9)) ∧ ∀ i, i < 15 → (w.alloc (.cells symsA 9)).cell? ⟨w.heap.size, i, none⟩ = some (.string (symK i))) := Lib.hid ⟨(Below.refl _ _).alloc (by simp) _, fun i hi => by rw [World.cell?_alloc_new]; exact symsA_at i hi⟩
  generalize w.alloc (.cells symsA 9) = W1 at hW ⊢
  go_loopw [7] (fun j w' => ∃ k : Nat, k ≤ 15 ∧ j = .int .i64 k ∧ Hid ((symL.drop k).find? (fun x => hpB t x) = symL.find? (fun x => hpB t x)) ∧ w' = W1) (fun j _ => 15 - (intOf j).toNat)
  case atStart => exact ⟨0, by omega, rfl, Lib.hid rfl, rfl⟩
  case round =>
    obtain ⟨k, hk, rfl, HF, rfl⟩ := hrel
    by_cases hk15 : k < 15
    · have hkI : (k : Int) < 15 := by omega
      obtain ⟨y, hy⟩ : ∃ y, symK k = y := ⟨_, rfl⟩
      have hcell := hW.out.2 k hk15
      rw [hy] at hcell
      obtain ⟨b, hb⟩ : ∃ b, hpB t y = b := ⟨_, rfl⟩
      have hdr := HF.out
      rw [sym_drop k hk15, List.find?_cons, hy, hb] at hdr
      have HDR := Lib.hid hdr
      clear hdr hy
      have hbb := hb
      unfold hpB at hbb
      by_cases hz : y.size ≤ t.size
      · have hzI : (y.size : Int) ≤ (t.size : Int) := by omega
        rw [decide_eq_true hz, Bool.true_and] at hbb
        cases b
        · have HDR2 : Hid ((symL.drop (k + 1)).find? (fun x => hpB t x) = symL.find? (fun x => hpB t x)) := Lib.hid HDR.out
          clear hb
          go_wp2
          go_roundw
          case rel => (go_light; exact ⟨k + 1, by omega, by simp, HDR2, by trivial⟩)
          case measure => simp [intOf]; omega
        · have hfin : n = y.size := by
            rw [← HN.out]; unfold symLen; rw [← HDR.out]
          have HFIN := Lib.hid hfin
          clear hfin hb
          go_wp2
          go_ret
          exact ⟨by rw [HFIN.out]; rfl, hW.out.1⟩
      · have hzI : ¬ (y.size : Int) ≤ (t.size : Int) := by omega
        rw [decide_eq_false hz, Bool.false_and] at hbb
        subst hbb
        have HDR2 : Hid ((symL.drop (k + 1)).find? (fun x => hpB t x) = symL.find? (fun x => hpB t x)) := Lib.hid HDR.out
        clear hb
        go_wp2
        go_roundw
        case rel => (go_light; exact ⟨k + 1, by omega, by simp, HDR2, by trivial⟩)
        case measure => simp [intOf]; omega
    · have hkI : ¬ (k : Int) < 15 := by omega
      have hfin : n = 0 := by
        rw [← HN.out]; unfold symLen
        rw [← HF.out, List.drop_eq_nil_of_le (show symL.length ≤ k by show 15 ≤ k; omega)]
        rfl
      have HFIN := Lib.hid hfin
      clear hfin
      go_wp2
      go_ret
      exact ⟨by rw [HFIN.out]; rfl, hW.out.1⟩
end Go.Proofs.YtoiofbpmgihkfaaDoor
