/- Package lexer: bytes of words, Clone, prefixes. -/
import Derived.Test.YtoiofbpmgihkfaaDoorNLit
import Derived.Lib.UnsafeStr
import Derived.Lib.BufferWrite
import Derived.Laws.MakeOwn
import Derived.Lib.Strings
namespace Go.Proofs.YtoiofbpmgihkfaaDoor
open Go.RowKit

def isL (c : Nat) : Bool := decide (97 ≤ c) && decide (c ≤ 122)
def isD (c : Nat) : Bool := decide (48 ≤ c) && decide (c ≤ 57)
def isWd (c : Nat) : Bool := isL c || (isD c || decide (c = 95))
set_option maxRecDepth 100000 in
set_option maxHeartbeats 1000000 in
theorem lx_letter (c : Nat) (w : World) : Calls Tryd.prog 41 #[.int .u8 c] w fun e w' => e = .returned (.bool (isL c)) ∧ w = w' := by
  have e1 : decide ((97 : Int) ≤ (c : Int)) = decide (97 ≤ c) := by rw [decide_eq_decide]; omega
  have e2 : decide ((c : Int) ≤ 122) = decide (c ≤ 122) := by rw [decide_eq_decide]; omega
  by_cases h1 : 97 ≤ c
  · have g1 : (97 : Int) ≤ (c : Int) := by omega
    have e : isL c = decide (c ≤ 122) := by unfold isL; rw [decide_eq_true h1, Bool.true_and]
    rw [e]
    clear e e1
    go_enter Tryd.func41, Tryd.ntmps41
    go_wp2
    go_ret
    exact ⟨by first | rfl | (simp; done) | (simp; omega), rfl⟩
  · have g1 : ¬ (97 : Int) ≤ (c : Int) := by omega
    have e : isL c = false := by unfold isL; rw [decide_eq_false h1, Bool.false_and]
    rw [e]
    clear e e1
    go_enter Tryd.func41, Tryd.ntmps41
    go_wp2
    go_ret
    exact ⟨rfl, rfl⟩
set_option maxRecDepth 100000 in
set_option maxHeartbeats 1000000 in
theorem lx_digit (c : Nat) (w : World) : Calls Tryd.prog 56 #[.int .u8 c] w fun e w' => e = .returned (.bool (isD c)) ∧ w = w' := by
  by_cases h1 : 48 ≤ c
  · have g1 : (48 : Int) ≤ (c : Int) := by omega
    have e : isD c = decide (c ≤ 57) := by unfold isD; rw [decide_eq_true h1, Bool.true_and]
    rw [e]
    clear e
    go_enter Tryd.func56, Tryd.ntmps56
    go_wp2
    go_ret
    exact ⟨by first | rfl | (simp; done) | (simp; omega), rfl⟩
  · have g1 : ¬ (48 : Int) ≤ (c : Int) := by omega
    have e : isD c = false := by unfold isD; rw [decide_eq_false h1, Bool.false_and]
    rw [e]
    clear e
    go_enter Tryd.func56, Tryd.ntmps56
    go_wp2
    go_ret
    exact ⟨rfl, rfl⟩
set_option maxRecDepth 100000 in
set_option maxHeartbeats 1000000 in
theorem lx_word (c : Nat) (w : World) : Calls Tryd.prog 40 #[.int .u8 c] w fun e w' => e = .returned (.bool (isWd c)) ∧ w = w' := by
  obtain ⟨b1, h1⟩ : ∃ b, isL c = b := ⟨_, rfl⟩
  obtain ⟨b2, h2⟩ : ∃ b, isD c = b := ⟨_, rfl⟩
  have K1 : Hid (∀ W, Calls Tryd.prog 41 #[.int .u8 c] W fun e w' => e = .returned (.bool b1) ∧ W = w') := Lib.hid fun W => by rw [← h1]; exact lx_letter c W
  have K2 : Hid (∀ W, Calls Tryd.prog 56 #[.int .u8 c] W fun e w' => e = .returned (.bool b2) ∧ W = w') := Lib.hid fun W => by rw [← h2]; exact lx_digit c W
  have e : isWd c = (b1 || (b2 || decide (c = 95))) := by unfold isWd; rw [h1, h2]
  rw [e]
  have H1 := Lib.hid h1
  clear e h1 h2
  by_cases h3 : c = 95
  · subst h3
    cases b1 <;> cases b2
    all_goals
      go_enter Tryd.func40, Tryd.ntmps40
      go_wp2_with (first
        | (go_at_call 41; refine (K1.out _).mono ?_; rintro e w1 ⟨rfl, rfl⟩)
        | (go_at_call 56; refine (K2.out _).mono ?_; rintro e w1 ⟨rfl, rfl⟩))
      go_ret
      exact ⟨rfl, rfl⟩
  · have g3 : ((c : Int) == 95) = false := by rw [beq_eq_false_iff_ne]; omega
    have g4 : ¬ (c : Int) = 95 := by omega
    rw [decide_eq_false h3, Bool.or_false]
    cases b1 <;> cases b2
    all_goals
      go_enter Tryd.func40, Tryd.ntmps40
      go_wp2_with (first
        | (go_at_call 41; refine (K1.out _).mono ?_; rintro e w1 ⟨rfl, rfl⟩)
        | (go_at_call 56; refine (K2.out _).mono ?_; rintro e w1 ⟨rfl, rfl⟩))
      go_ret
      exact ⟨rfl, rfl⟩
set_option maxRecDepth 100000 in
set_option maxHeartbeats 1000000 in
theorem st_has2 (s p : ByteArray) (w : World) : Calls Tryd.prog 28 #[.string s, .string p] w fun e w' => e = .returned (.bool (hpB s p)) ∧ w = w' := by
  have K : Hid (∀ W, Calls Tryd.prog 44 #[.string s, .string p] W fun e w' => e = .returned (.bool (hpB s p)) ∧ W = w') := Lib.hid fun W => st_has s p W
  generalize hpB s p = b at K ⊢
  go_enter Tryd.func28, Tryd.ntmps28
  go_wp2_with (go_at_call 44; refine (K.out _).mono ?_; rintro e w1 ⟨rfl, rfl⟩)
  go_ret
  exact ⟨rfl, rfl⟩
/-- how many bytes of words come from place k on, n at most -/
def wrunN (s : ByteArray) : Nat → Nat → Nat
  | 0, _ => 0
  | n + 1, k => if k < s.size ∧ isWd (bt s k) = true then wrunN s n (k + 1) + 1 else 0
def wrun (s : ByteArray) (k : Nat) : Nat := wrunN s (s.size - k) k
theorem wrunN_stop (s : ByteArray) (n k : Nat) (h : ¬ (k < s.size ∧ isWd (bt s k) = true)) : wrunN s n k = 0 := by
  cases n with
  | zero => rfl
  | succ n => rw [wrunN, if_neg h]
theorem wrun_step (s : ByteArray) (k : Nat) (h : k < s.size) (hw : isWd (bt s k) = true) : wrun s k = wrun s (k + 1) + 1 := by
  unfold wrun
  rw [show s.size - k = (s.size - (k + 1)) + 1 by omega, wrunN, if_pos ⟨h, hw⟩]
theorem wrun_stop (s : ByteArray) (k : Nat) (h : ¬ (k < s.size ∧ isWd (bt s k) = true)) : wrun s k = 0 := wrunN_stop s _ k h
theorem wrun_le (s : ByteArray) (k : Nat) : k ≤ s.size → k + wrun s k ≤ s.size := by
  intro hk
  obtain ⟨d, hd⟩ : ∃ d, d = s.size - k := ⟨_, rfl⟩
  induction d generalizing k with
  | zero => rw [wrun_stop s k (by intro h; omega)]; omega
  | succ d ih =>
    by_cases h : k < s.size ∧ isWd (bt s k) = true
    · rw [wrun_step s k h.1 h.2]; have := ih (k + 1) (by omega) (by omega); omega
    · rw [wrun_stop s k h]; omega
set_option maxRecDepth 100000 in
set_option maxHeartbeats 2000000 in
theorem lx_wordAt (s : ByteArray) (at_ : Nat) (ha : at_ ≤ s.size) (hs : s.size < 9223372036854775807) (w : World) :
    Calls Tryd.prog 25 #[.string s, .int .i64 at_] w fun e w' => e = .returned (.string (s.extract at_ (at_ + wrun s at_))) ∧ w = w' := by
  go_enter Tryd.func25, Tryd.ntmps25
  go_wp2
  go_loopw [5] (fun i w' => ∃ k : Nat, at_ ≤ k ∧ k ≤ s.size ∧ i = .int .i64 k ∧ Hid (k + wrun s k = at_ + wrun s at_) ∧ w = w') (fun i _ => s.size - (intOf i).toNat)
  case atStart => exact ⟨at_, Nat.le_refl _, ha, rfl, Lib.hid rfl, rfl⟩
  case round =>
    obtain ⟨k, hk0, hk, rfl, HE, rfl⟩ := hrel
    by_cases hlt : k < s.size
    · have h1 : (k : Int) < (s.size : Int) := by omega
      obtain ⟨c, hc⟩ : ∃ c, bt s k = c := ⟨_, rfl⟩
      have hbyte : (s[k]'hlt).toNat = c := by rw [bt_at, hc]
      obtain ⟨b, hb⟩ : ∃ b, isWd c = b := ⟨_, rfl⟩
      have KW : Hid (∀ W, Calls Tryd.prog 40 #[.int .u8 (c : Int)] W fun e w' => e = .returned (.bool b) ∧ W = w') := Lib.hid fun W => by rw [← hb]; exact lx_word c W
      have HC := Lib.hid hc
      have HBb := Lib.hid hb
      clear hc hb
      cases b
      · have hfin : at_ + wrun s at_ = k := by
          have h0 := wrun_stop s k (fun h => by have := h.2; rw [HC.out, HBb.out] at this; cases this)
          have := HE.out; omega
        have h2 : (at_ : Int) ≤ (k : Int) := by omega
        have HFIN := Lib.hid hfin
        clear hfin
        go_wp2_with (go_at_call 40; refine (KW.out _).mono ?_; rintro e w1 ⟨rfl, rfl⟩)
        go_ret
        exact ⟨by rw [HFIN.out]; rfl, rfl⟩
      · have hst := wrun_step s k hlt (by rw [HC.out]; exact HBb.out)
        have HST := Lib.hid hst
        clear hst
        go_wp2_with (go_at_call 40; refine (KW.out _).mono ?_; rintro e w1 ⟨rfl, rfl⟩)
        go_roundw
        case rel => (go_light; exact ⟨k + 1, by omega, by omega, by simp, Lib.hid (by have := HE.out; have := HST.out; omega), by trivial⟩)
        case measure => simp [intOf]; omega
    · have h1 : ¬ (k : Int) < (s.size : Int) := by omega
      have hfin : at_ + wrun s at_ = k := by
        have h0 := wrun_stop s k (fun h => hlt h.1)
        have := HE.out; omega
      have h2 : (at_ : Int) ≤ (k : Int) := by omega
      have hks : (k : Int) ≤ (s.size : Int) := by omega
      have HFIN := Lib.hid hfin
      clear hfin
      go_wp2
      go_ret
      exact ⟨by rw [HFIN.out]; rfl, rfl⟩
end Go.Proofs.YtoiofbpmgihkfaaDoor
