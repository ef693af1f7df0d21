/- Literals: what they are; package number's digitOf, the prefix. -/
import Derived.Test.YtodmkmoglchoeaaDoorJNTx
namespace Go.Proofs.YtodmkmoglchoeaaDoor
open Go.RowKit

/-- byte i of a text, 0 behind its end -/
def bt (s : ByteArray) (i : Nat) : Nat := if h : i < s.size then (s[i]'h).toNat else 0
theorem bt_at (s : ByteArray) (i : Nat) (h : i < s.size) : (s[i]'h).toNat = bt s i := by unfold bt; rw [dif_pos h]
theorem bt_lt (s : ByteArray) (i : Nat) : bt s i < 256 := by
  unfold bt; split
  · exact UInt8.toNat_lt _
  · decide
/-- what a digit or letter stands for; 99 if it is none -/
def dgN (c : Nat) : Nat := if 48 ≤ c ∧ c ≤ 57 then c - 48 else if 97 ≤ c ∧ c ≤ 102 then c - 87 else 99
/-- what the first k digits come to, if all are digits and it is below 2^128 -/
def pv (b : Nat) (g : Nat → Nat) : Nat → Option Nat
  | 0 => some 0
  | k + 1 => (pv b g k).bind fun a => if dgN (g k) < b ∧ a * b + dgN (g k) < 340282366920938463463374607431768211456 then some (a * b + dgN (g k)) else none
theorem pv_none {b : Nat} {g : Nat → Nat} {k n : Nat} (h : pv b g k = none) (hk : k ≤ n) : pv b g n = none := by
  induction n with
  | zero => have : k = 0 := by omega
            rw [← this]; exact h
  | succ n ih =>
    by_cases e : k = n + 1
    · rw [← e]; exact h
    · rw [pv, ih (by omega)]; rfl
theorem pv_lt {b : Nat} {g : Nat → Nat} {k a : Nat} (h : pv b g k = some a) : a < 340282366920938463463374607431768211456 := by
  cases k with
  | zero => rw [pv] at h; injection h with h; omega
  | succ k =>
    rw [pv] at h
    cases hk : pv b g k with
    | none => rw [hk] at h; simp at h
    | some x =>
      rw [hk] at h
      simp only [Option.bind_some] at h
      split at h
      · rename_i hc; injection h with h; rw [← h]; exact hc.2
      · cases h
theorem pv_step {b : Nat} {g : Nat → Nat} {k a : Nat} (h : pv b g k = some a) (h1 : dgN (g k) < b) (h2 : a * b + dgN (g k) < 340282366920938463463374607431768211456) : pv b g (k + 1) = some (a * b + dgN (g k)) := by
  rw [pv, h, Option.bind_some, if_pos ⟨h1, h2⟩]
theorem pv_stop {b : Nat} {g : Nat → Nat} {k a n : Nat} (h : pv b g k = some a) (hn : k < n) (h1 : ¬ (dgN (g k) < b ∧ a * b + dgN (g k) < 340282366920938463463374607431768211456)) : pv b g n = none :=
  pv_none (k := k + 1) (by rw [pv, h, Option.bind_some, if_neg h1]) hn
set_option maxRecDepth 100000 in
set_option maxHeartbeats 1000000 in
theorem nn_digit (c : Nat) (hc : c < 256) (w : World) : Calls Tryd.prog 96 #[.int .u8 c] w fun e w' => e = .returned (.int .u32 (min (dgN c) 16 : Nat)) ∧ w = w' := by
  by_cases h1 : 48 ≤ c ∧ c ≤ 57
  · obtain ⟨d, hd⟩ : ∃ d : Nat, c = d + 48 := ⟨c - 48, by omega⟩
    have e : min (dgN c) 16 = d := by unfold dgN; rw [if_pos h1]; omega
    rw [e]
    have g1 : (48 : Int) ≤ (c : Int) := by omega
    have g2 : (c : Int) ≤ 57 := by omega
    have n1 : 48 ≤ c := h1.1
    have n2 : c ≤ 57 := h1.2
    have e1 : ((c : Int) - 48) % 256 = (d : Int) := by omega
    have e2 : (d : Int) % 4294967296 = (d : Int) := by omega
    clear h1 e
    go_enter Tryd.func96, Tryd.ntmps96
    go_wp2
    go_ret
    exact ⟨rfl, rfl⟩
  · by_cases h2 : 97 ≤ c ∧ c ≤ 102
    · obtain ⟨d, hd⟩ : ∃ d : Nat, c = d + 97 := ⟨c - 97, by omega⟩
      have e : min (dgN c) 16 = d + 10 := by unfold dgN; rw [if_neg h1, if_pos h2]; omega
      rw [e]
      have g1 : (97 : Int) ≤ (c : Int) := by omega
      have g2 : (c : Int) ≤ 102 := by omega
      have g3 : ¬ (c : Int) ≤ 57 := by omega
      have g4 : (48 : Int) ≤ (c : Int) := by omega
      have n1 : 97 ≤ c := h2.1
      have n2 : c ≤ 102 := h2.2
      have n3 : ¬ c ≤ 57 := by omega
      have n4 : 48 ≤ c := by omega
      have e1 : ((c : Int) - 97) % 256 = (d : Int) := by omega
      have e2 : ((d : Int) + 10) % 4294967296 = ((d + 10 : Nat) : Int) := by omega
      clear h1 h2 e
      go_enter Tryd.func96, Tryd.ntmps96
      go_wp2
      go_ret
      exact ⟨rfl, rfl⟩
    · have e : min (dgN c) 16 = 16 := by unfold dgN; rw [if_neg h1, if_neg h2]; rfl
      rw [e]
      clear e
      by_cases a1 : 48 ≤ c
      · have a2 : ¬ c ≤ 57 := by omega
        have g1 : (48 : Int) ≤ (c : Int) := by omega
        have g2 : ¬ (c : Int) ≤ 57 := by omega
        by_cases b1 : 97 ≤ c
        · have b2 : ¬ c ≤ 102 := by omega
          have g3 : (97 : Int) ≤ (c : Int) := by omega
          have g4 : ¬ (c : Int) ≤ 102 := by omega
          clear h1 h2
          go_enter Tryd.func96, Tryd.ntmps96
          go_wp2
          go_ret
          exact ⟨rfl, rfl⟩
        · have g3 : ¬ (97 : Int) ≤ (c : Int) := by omega
          clear h1 h2
          go_enter Tryd.func96, Tryd.ntmps96
          go_wp2
          go_ret
          exact ⟨rfl, rfl⟩
      · have g1 : ¬ (48 : Int) ≤ (c : Int) := by omega
        have b1 : ¬ 97 ≤ c := by omega
        have g3 : ¬ (97 : Int) ≤ (c : Int) := by omega
        clear h1 h2
        go_enter Tryd.func96, Tryd.ntmps96
        go_wp2
        go_ret
        exact ⟨rfl, rfl⟩
/-- s begins with p -/
def hpB (s p : ByteArray) : Bool := decide (p.size ≤ s.size) && ((s.extract 0 p.size).toList == p.toList)
set_option maxRecDepth 100000 in
set_option maxHeartbeats 1000000 in
theorem st_has (s p : ByteArray) (w : World) : Calls Tryd.prog 67 #[.string s, .string p] w fun e w' => e = .returned (.bool (hpB s p)) ∧ w = w' := by
  by_cases h : p.size ≤ s.size
  · have hi : (p.size : Int) ≤ (s.size : Int) := by omega
    have e : hpB s p = ((s.extract 0 p.size).toList == p.toList) := by unfold hpB; rw [decide_eq_true h, Bool.true_and]
    rw [e]
    clear e
    go_enter Tryd.func67, Tryd.ntmps67
    go_wp2
    go_ret
    exact ⟨rfl, rfl⟩
  · have hi : ¬ (p.size : Int) ≤ (s.size : Int) := by omega
    have e : hpB s p = false := by unfold hpB; rw [decide_eq_false h, Bool.false_and]
    rw [e]
    clear e
    go_enter Tryd.func67, Tryd.ntmps67
    go_wp2
    go_ret
    exact ⟨rfl, rfl⟩
set_option maxRecDepth 100000 in
set_option maxHeartbeats 1000000 in
theorem st_cut (s p : ByteArray) (w : World) : Calls Tryd.prog 95 #[.string s, .string p] w fun e w' => e = .returned (.tuple #[.string (if hpB s p = true then s.extract p.size s.size else s), .bool (hpB s p)]) ∧ w = w' := by
  cases hb : hpB s p
  · go_enter Tryd.func95, Tryd.ntmps95
    go_wp2_with (go_at_call 67; refine (st_has s p _).mono ?_; rintro e w1 ⟨rfl, rfl⟩; rw [hb])
    refine bodyPost_ret (v := .tuple #[.string s, .bool false]) (by simp [results, Tryd.results95, go_sem]) rfl ⟨by simp, rfl⟩
  · have h : (p.size : Int) ≤ (s.size : Int) := by
      unfold hpB at hb
      rw [Bool.and_eq_true, decide_eq_true_iff] at hb
      omega
    go_enter Tryd.func95, Tryd.ntmps95
    go_wp2_with (go_at_call 67; refine (st_has s p _).mono ?_; rintro e w1 ⟨rfl, rfl⟩; rw [hb])
    refine bodyPost_ret (v := .tuple #[.string (s.extract p.size s.size), .bool true]) (by simp [results, Tryd.results95, go_sem]) rfl ⟨by simp, rfl⟩
set_option maxRecDepth 100000 in
set_option maxHeartbeats 1000000 in
theorem st_cut2 (s p : ByteArray) (w : World) : Calls Tryd.prog 85 #[.string s, .string p] w fun e w' => e = .returned (.tuple #[.string (if hpB s p = true then s.extract p.size s.size else s), .bool (hpB s p)]) ∧ w = w' := by
  have K : Hid (∀ W, Calls Tryd.prog 95 #[.string s, .string p] W fun e w' => e = .returned (.tuple #[.string (if hpB s p = true then s.extract p.size s.size else s), .bool (hpB s p)]) ∧ W = w') := Lib.hid fun W => st_cut s p W
  generalize hpB s p = b at K ⊢
  generalize (if b = true then s.extract p.size s.size else s) = x at K ⊢
  go_enter Tryd.func85, Tryd.ntmps85
  go_wp2_with (go_at_call 95; refine (K.out _).mono ?_; rintro e w1 ⟨rfl, rfl⟩)
  refine bodyPost_ret (v := .tuple #[.string x, .bool b]) (by simp [results, Tryd.results85, go_sem]) rfl ⟨by simp, rfl⟩
/-- a literal's number and whether it is one -/
def RetNB (z : Int) (b : Bool) (w : World) (e : Ending) (w' : World) : Prop := e = .returned (.tuple #[.agg #[.int .u32 (wd z 0), .int .u32 (wd z 1), .int .u32 (wd z 2), .int .u32 (wd z 3), .int .u32 (wd z 4), .int .u32 (wd z 5)], .bool b]) ∧ Below w.heap.size w w'
/-- parse's state: the result's box, the number's -/
structure ParsAt (w : World) (a : Int) (w' : World) : Prop where
  below : Below w.heap.size w w'
  lt : w.heap.size + 2 ≤ w'.heap.size
  r0 : RowAt w' w.heap.size 6 (wV 0)
  ra : RowAt w' (w.heap.size + 1) 6 (wV a)
theorem ParsAt.call {w w1 w2 : World} {a : Int} (h : ParsAt w a w1) (hb : Below w1.heap.size w1 w2) : ParsAt w a w2 :=
  ⟨h.below.trans (hb.mono h.below.size), Nat.le_trans h.lt hb.size, h.r0.below hb (by have := h.lt; omega), h.ra.below hb (by have := h.lt; omega)⟩
theorem ParsAt.store {w w1 : World} {a b : Int} (h : ParsAt w a w1) : ParsAt w b ((((((w1.setCell ⟨w.heap.size + 1, 0, none⟩ (.int .u32 (wd b 0))).setCell ⟨w.heap.size + 1, 1, none⟩ (.int .u32 (wd b 1))).setCell ⟨w.heap.size + 1, 2, none⟩ (.int .u32 (wd b 2))).setCell ⟨w.heap.size + 1, 3, none⟩ (.int .u32 (wd b 3))).setCell ⟨w.heap.size + 1, 4, none⟩ (.int .u32 (wd b 4))).setCell ⟨w.heap.size + 1, 5, none⟩ (.int .u32 (wd b 5))) :=
  ⟨store6 h.below (by omega) _ _ _ _ _ _, by simp only [World.size_setCell]; exact h.lt, far6 h.r0 (by omega) _ _ _ _ _ _, row6 h.ra⟩
theorem wd_0i (k : Nat) : wd 0 k = 0 := wd_zero k
set_option maxRecDepth 100000 in
set_option maxHeartbeats 4000000 in
theorem nn_parse (s : ByteArray) (b : Nat) (hb : b = 10 ∨ b = 16) (hs : s.size < 9223372036854775807) (w : World) :
    Calls Tryd.prog 86 #[.string s, .int .u32 (b : Int)] w (RetNB (((pv b (bt s) s.size).getD 0 : Nat) : Int) ((pv b (bt s) s.size).isSome && decide (0 < s.size)) w) := by
  have HB := Lib.hid hb
  go_enter Tryd.func86, Tryd.ntmps86
  go_wp2
  go_loopw [11] (fun i w' => ∃ k a : Nat, k ≤ s.size ∧ i = .int .i64 k ∧ pv b (bt s) k = some a ∧ ParsAt w a w') (fun i _ => s.size - (intOf i).toNat)
  case atStart =>
    have h0 := (RowAt.new w 6 (fun _ => .int .u32 0) 174).past (by simp) (.cells (rowA 6 fun _ => .int .u32 0) 174)
    have h1 := RowAt.new (w.alloc (.cells (rowA 6 fun _ => .int .u32 0) 174)) 6 (fun _ => .int .u32 0) 174
    simp only [World.size_alloc] at h1
    exact ⟨0, 0, by omega, rfl, rfl, ((Below.refl _ _).alloc (by simp) _).alloc (by simp) _, by simp, h0.congr fun i _ => by unfold wV; rw [wd_zero], h1.congr fun i _ => by unfold wV; rw [show ((0 : Nat) : Int) = 0 from rfl, wd_zero]⟩
  case round =>
    obtain ⟨k, a, hk, rfl, hpv, hP⟩ := hrel
    have HP := Lib.hid hP
    have HPV := Lib.hid hpv
    have hlt := hP.lt
    clear hP hpv hb
    by_cases hlk : k < s.size
    · have h1 : (k : Int) < (s.size : Int) := by omega
      obtain ⟨c, hc⟩ : ∃ c, bt s k = c := ⟨_, rfl⟩
      have hbyte : (s[k]'hlk).toNat = c := by rw [bt_at, hc]
      have hc2 : c < 256 := by rw [← hc]; exact bt_lt s k
      have HC := Lib.hid hc
      clear hc
      obtain ⟨d, hd⟩ : ∃ d, min (dgN c) 16 = d := ⟨_, rfl⟩
      have KD : Hid (∀ W, Calls Tryd.prog 96 #[.int .u8 (c : Int)] W fun e w' => e = .returned (.int .u32 (d : Int)) ∧ W = w') := Lib.hid fun W => by rw [← hd]; exact nn_digit c hc2 W
      have HD := Lib.hid hd
      clear hd
      go_wp2_with fail
      go_at_call 96
      refine (KD.out _).mono ?_
      rintro e w1 ⟨rfl, rfl⟩
      have hb16 : b ≤ 16 := by rcases HB.out with h | h <;> omega
      have hb10 : 10 ≤ b := by rcases HB.out with h | h <;> omega
      obtain ⟨⟨r0, r1, r2, r3, r4, r5⟩, g0, g1, g2, g3, g4, g5⟩ := six_there HP.out.r0
      obtain ⟨⟨a0, a1, a2, a3, a4, a5⟩, f0, f1, f2, f3, f4, f5⟩ := six_there HP.out.ra
      by_cases hdb : b ≤ d
      · have hnone : pv b (bt s) s.size = none := pv_stop HPV.out hlk fun h => by
          have := HD.out; have := HC.out; have := h.1; rw [HC.out] at this; omega
        have HN := Lib.hid hnone
        have hdbI : (b : Int) ≤ (d : Int) := by omega
        have HBl := Lib.hid HP.out.below
        have ER : Hid (RowAt wr w.heap.size 6 (wV 0)) := Lib.hid HP.out.r0
        have ew := wd_zero
        clear hnone HPV HP KD HD HC HB hb16 hb10
        go_wp2
        refine bodyPost_ret (v := .tuple #[.agg #[.int .u32 0, .int .u32 0, .int .u32 0, .int .u32 0, .int .u32 0, .int .u32 0], .bool false]) (by simp [results, Tryd.results86, go_sem, r0, r1, r2, r3, r4, r5]) rfl ⟨by rw [HN.out]; simp [wd_zero], ?_⟩
        exact store6 HBl.out (by omega) _ _ _ _ _ _
      · have hdc : dgN c = d := by have := HD.out; omega
        have hdbI : ¬ (b : Int) ≤ (d : Int) := by omega
        have ha := pv_lt HPV.out
        obtain ⟨q, hq⟩ : ∃ q, q = a * b + d := ⟨_, rfl⟩
        have hmul : a * b ≤ 340282366920938463463374607431768211455 * 16 := Nat.mul_le_mul (by omega) hb16
        have hqR : Rg (q : Int) := by unfold Rg; omega
        have KE : Hid (∀ W, Calls Tryd.prog 97 #[.agg #[.int .u32 (wd (a : Int) 0), .int .u32 (wd (a : Int) 1), .int .u32 (wd (a : Int) 2), .int .u32 (wd (a : Int) 3), .int .u32 (wd (a : Int) 4), .int .u32 (wd (a : Int) 5)], .int .u32 (b : Int), .int .u32 (d : Int)] W (RetN (q : Int) W)) := Lib.hid fun W => by
          have h := nn_ext (a : Int) (b : Int) (d : Int) (by omega) (by omega) (by omega) W
          rw [show ((a : Int) * (b : Int) + (d : Int)) = (q : Int) by rw [hq]; simp] at h
          exact h
        obtain ⟨v, hv⟩ : ∃ v, isV (q : Int) = v := ⟨_, rfl⟩
        have KI : Hid (∀ W, Calls Tryd.prog 98 #[.agg #[.int .u32 (wd (q : Int) 0), .int .u32 (wd (q : Int) 1), .int .u32 (wd (q : Int) 2), .int .u32 (wd (q : Int) 3), .int .u32 (wd (q : Int) 4), .int .u32 (wd (q : Int) 5)]] W (RetX (.bool v) W)) := Lib.hid fun W => by rw [← hv]; exact nn_isv (q : Int) hqR W
        have hv2 : v = decide (q < 340282366920938463463374607431768211456) := by
          rw [← hv]; unfold isV; rw [decide_eq_decide]; omega
        have HV := Lib.hid hv2
        have HQ := Lib.hid hq
        have HDC := Lib.hid hdc
        have HBD := Lib.hid (show d < b by omega)
        clear hv hv2 hq hdc hmul hqR ha hdb HD KD hb16 hb10
        go_wp2_with fail
        go_at_call 97
        refine (KE.out _).mono ?_
        rintro e w2 ⟨rfl, hb2⟩
        have HP2 := Lib.hid (HP.out.call hb2)
        clear hb2 HP a0 a1 a2 a3 a4 a5 f0 f1 f2 f3 f4 f5 r0 r1 r2 r3 r4 r5 g0 g1 g2 g3 g4 g5
        obtain ⟨⟨a0, a1, a2, a3, a4, a5⟩, f0, f1, f2, f3, f4, f5⟩ := six_there HP2.out.ra
        go_upto_region 9 with fail
        have HP3 := Lib.hid (HP2.out.store (b := (q : Int)))
        clear HP2 a0 a1 a2 a3 a4 a5 f0 f1 f2 f3 f4 f5
        generalize hW3 : ((((((w2.setCell ⟨w.heap.size + 1, 0, none⟩ (.int .u32 (wd (q : Int) 0))).setCell ⟨w.heap.size + 1, 1, none⟩ (.int .u32 (wd (q : Int) 1))).setCell ⟨w.heap.size + 1, 2, none⟩ (.int .u32 (wd (q : Int) 2))).setCell ⟨w.heap.size + 1, 3, none⟩ (.int .u32 (wd (q : Int) 3))).setCell ⟨w.heap.size + 1, 4, none⟩ (.int .u32 (wd (q : Int) 4))).setCell ⟨w.heap.size + 1, 5, none⟩ (.int .u32 (wd (q : Int) 5))) = W3 at HP3 ⊢
        clear hW3
        obtain ⟨⟨a0, a1, a2, a3, a4, a5⟩, _⟩ := six_there HP3.out.ra
        go_wp2_with fail
        go_at_call 98
        refine (KI.out _).mono ?_
        rintro e w4 ⟨rfl, hb4⟩
        have HP4 := Lib.hid (HP3.out.call hb4)
        have hlt4 := HP4.out.lt
        clear hb4 HP3 a0 a1 a2 a3 a4 a5 KI KE
        obtain ⟨⟨r0, r1, r2, r3, r4, r5⟩, g0, g1, g2, g3, g4, g5⟩ := six_there HP4.out.r0
        by_cases hqv : q < 340282366920938463463374607431768211456
        · have ev : v = true := by rw [HV.out, decide_eq_true hqv]
          subst ev
          have HQV := Lib.hid hqv
          clear hqv r0 r1 r2 r3 r4 r5 g0 g1 g2 g3 g4 g5
          go_wp2
          go_roundw
          case rel =>
            go_light
            refine ⟨k + 1, q, by omega, by simp, ?_, HP4.out⟩
            have h := pv_step HPV.out (by rw [HC.out, HDC.out]; exact HBD.out) (by rw [HC.out, HDC.out, ← HQ.out]; exact HQV.out)
            rw [HC.out, HDC.out, ← HQ.out] at h
            exact h
          case measure => simp [intOf]; omega
        · have ev : v = false := by rw [HV.out, decide_eq_false hqv]
          subst ev
          have hnone : pv b (bt s) s.size = none := pv_stop HPV.out hlk fun h => hqv (by have := h.2; rw [HC.out, HDC.out, ← HQ.out] at this; exact this)
          have HN := Lib.hid hnone
          have HBl := Lib.hid HP4.out.below
          clear hqv hnone HPV HP4 HC HB HV HQ HDC HBD
          go_wp2
          refine bodyPost_ret (v := .tuple #[.agg #[.int .u32 0, .int .u32 0, .int .u32 0, .int .u32 0, .int .u32 0, .int .u32 0], .bool false]) (by simp [results, Tryd.results86, go_sem, r0, r1, r2, r3, r4, r5]) rfl ⟨by rw [HN.out]; simp [wd_zero], ?_⟩
          exact store6 HBl.out (by omega) _ _ _ _ _ _
    · have e : k = s.size := by omega
      have hfin : pv b (bt s) s.size = some a := by rw [← e]; exact HPV.out
      have HFIN := Lib.hid hfin
      obtain ⟨v, hv⟩ : ∃ v, decide (0 < s.size) = v := ⟨_, rfl⟩
      have hv2 : decide ((0 : Int) < (s.size : Int)) = v := by rw [← hv, decide_eq_decide]; omega
      obtain ⟨⟨r0, r1, r2, r3, r4, r5⟩, g0, g1, g2, g3, g4, g5⟩ := six_there HP.out.r0
      obtain ⟨⟨a0, a1, a2, a3, a4, a5⟩, f0, f1, f2, f3, f4, f5⟩ := six_there HP.out.ra
      have HBl := Lib.hid HP.out.below
      have HV := Lib.hid hv
      have hlk2 : ¬ (k : Int) < (s.size : Int) := by omega
      clear hfin HPV HP HB
      go_wp2
      refine bodyPost_ret (v := .tuple #[.agg #[.int .u32 (wd (a : Int) 0), .int .u32 (wd (a : Int) 1), .int .u32 (wd (a : Int) 2), .int .u32 (wd (a : Int) 3), .int .u32 (wd (a : Int) 4), .int .u32 (wd (a : Int) 5)], .bool v]) (by simp [results, Tryd.results86, go_sem, r0, r1, r2, r3, r4, r5]) rfl ⟨by rw [HFIN.out, ← HV.out]; rfl, ?_⟩
      exact store6 HBl.out (by omega) _ _ _ _ _ _
/-- a text's base, its digits, its number, whether it is a literal -/
def x0 : ByteArray := ⟨#[48, 120]⟩
def litS (s : ByteArray) : ByteArray := if hpB s x0 = true then s.extract 2 s.size else s
def litB (s : ByteArray) : Nat := if hpB s x0 = true then 16 else 10
def litV (s : ByteArray) : Option Nat := if 0 < (litS s).size then pv (litB s) (bt (litS s)) (litS s).size else none
set_option maxRecDepth 100000 in
set_option maxHeartbeats 2000000 in
theorem nn_literal (s : ByteArray) (hs : s.size < 9223372036854775807) (w : World) :
    Calls Tryd.prog 77 #[.string s] w (RetNB (((litV s).getD 0 : Nat) : Int) (litV s).isSome w) := by
  obtain ⟨t, ht⟩ : ∃ t, t = litS s := ⟨_, rfl⟩
  obtain ⟨h, hh⟩ : ∃ h, h = hpB s x0 := ⟨_, rfl⟩
  obtain ⟨r, hr⟩ : ∃ r : Int, r = (((litV s).getD 0 : Nat) : Int) := ⟨_, rfl⟩
  obtain ⟨o, ho⟩ : ∃ o, o = (litV s).isSome := ⟨_, rfl⟩
  have hts : t.size < 9223372036854775807 := by
    rw [ht]; unfold litS; split
    · rw [ByteArray.size_extract]; omega
    · exact hs
  have KC : Hid (∀ W, Calls Tryd.prog 85 #[.string s, .string x0] W fun e w' => e = .returned (.tuple #[.string t, .bool h]) ∧ W = w') := Lib.hid fun W => by
    rw [ht, hh]; exact st_cut2 s x0 W
  have KP : Hid (∀ W, Calls Tryd.prog 86 #[.string t, .int .u32 (if h = true then 16 else 10)] W (RetNB r o W)) := Lib.hid fun W => by
    have e : ∀ b, b = 10 ∨ b = 16 → litB s = b → Calls Tryd.prog 86 #[.string t, .int .u32 (b : Int)] W (RetNB r o W) := fun b hb he => by
      have K := nn_parse t b hb hts W
      have e1 : ((pv b (bt t) t.size).getD 0 : Nat) = (litV s).getD 0 := by
        unfold litV; rw [← ht, he]
        by_cases h0 : 0 < t.size
        · rw [if_pos h0]
        · rw [if_neg h0, show t.size = 0 by omega]; rfl
      have e2 : ((pv b (bt t) t.size).isSome && decide (0 < t.size)) = (litV s).isSome := by
        unfold litV; rw [← ht, he]
        by_cases h0 : 0 < t.size
        · rw [if_pos h0, decide_eq_true h0, Bool.and_true]
        · rw [if_neg h0, decide_eq_false h0, Bool.and_false]; rfl
      rw [e1, e2, ← hr, ← ho] at K
      exact K
    cases hb : h
    · exact e 10 (.inl rfl) (by unfold litB; rw [← hh, hb]; rfl)
    · exact e 16 (.inr rfl) (by unfold litB; rw [← hh, hb]; rfl)
  rw [← hr, ← ho]
  have ex : x0 = ⟨#[48, 120]⟩ := rfl
  rw [ex] at KC
  clear ht hh hr ho hts ex
  cases h
  all_goals
    go_enter Tryd.func77, Tryd.ntmps77
    go_wp2_with (first
      | (go_at_call 85; refine (KC.out _).mono ?_; rintro e w1 ⟨rfl, rfl⟩)
      | (go_at_call 86; refine (KP.out _).mono ?_; rintro e w2 ⟨rfl, hb⟩; obtain ⟨hc, hf, hz⟩ := after (w.heap.size + 1) hb (by simp) (by simp)))
    refine bodyPost_ret (v := .tuple #[.agg #[.int .u32 (wd r 0), .int .u32 (wd r 1), .int .u32 (wd r 2), .int .u32 (wd r 3), .int .u32 (wd r 4), .int .u32 (wd r 5)], .bool o]) (by simp [results, Tryd.results77, go_sem, hc]) rfl ⟨rfl, ?_⟩
    exact store6 (((Below.refl _ _).alloc (by simp) _).trans (hb.mono (by simp))) (by omega) _ _ _ _ _ _
end Go.Proofs.YtodmkmoglchoeaaDoor
