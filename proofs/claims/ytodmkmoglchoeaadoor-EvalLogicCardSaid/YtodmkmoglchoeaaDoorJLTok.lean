/- Contracts, joined: LTok, LTok2. -/
import Derived.Test.YtodmkmoglchoeaaDoorNLit
import Derived.Lib.UnsafeStr
import Derived.Lib.BufferWrite
import Derived.Laws.MakeOwn
import Derived.Lib.Strings
namespace Go.Proofs.YtodmkmoglchoeaaDoor
/- Package lexer: bytes of words, Clone, prefixes. -/
section
open Go.RowKit

def isL (c : Nat) : Bool := decide (97 ≤ c) && decide (c ≤ 122)
def isD (c : Nat) : Bool := decide (48 ≤ c) && decide (c ≤ 57)
def isWd (c : Nat) : Bool := isL c || (isD c || decide (c = 95))
set_option maxRecDepth 100000 in
set_option maxHeartbeats 1000000 in
theorem lx_letter (c : Nat) (w : World) : Calls Tryd.prog 65 #[.int .u8 c] w fun e w' => e = .returned (.bool (isL c)) ∧ w = w' := by
  have e1 : decide ((97 : Int) ≤ (c : Int)) = decide (97 ≤ c) := by rw [decide_eq_decide]; omega
  have e2 : decide ((c : Int) ≤ 122) = decide (c ≤ 122) := by rw [decide_eq_decide]; omega
  by_cases h1 : 97 ≤ c
  · have g1 : (97 : Int) ≤ (c : Int) := by omega
    have e : isL c = decide (c ≤ 122) := by unfold isL; rw [decide_eq_true h1, Bool.true_and]
    rw [e]
    clear e e1
    go_enter Tryd.func65, Tryd.ntmps65
    go_wp2
    go_ret
    exact ⟨by first | rfl | (simp; done) | (simp; omega), rfl⟩
  · have g1 : ¬ (97 : Int) ≤ (c : Int) := by omega
    have e : isL c = false := by unfold isL; rw [decide_eq_false h1, Bool.false_and]
    rw [e]
    clear e e1
    go_enter Tryd.func65, Tryd.ntmps65
    go_wp2
    go_ret
    exact ⟨rfl, rfl⟩
set_option maxRecDepth 100000 in
set_option maxHeartbeats 1000000 in
theorem lx_digit (c : Nat) (w : World) : Calls Tryd.prog 76 #[.int .u8 c] w fun e w' => e = .returned (.bool (isD c)) ∧ w = w' := by
  by_cases h1 : 48 ≤ c
  · have g1 : (48 : Int) ≤ (c : Int) := by omega
    have e : isD c = decide (c ≤ 57) := by unfold isD; rw [decide_eq_true h1, Bool.true_and]
    rw [e]
    clear e
    go_enter Tryd.func76, Tryd.ntmps76
    go_wp2
    go_ret
    exact ⟨by first | rfl | (simp; done) | (simp; omega), rfl⟩
  · have g1 : ¬ (48 : Int) ≤ (c : Int) := by omega
    have e : isD c = false := by unfold isD; rw [decide_eq_false h1, Bool.false_and]
    rw [e]
    clear e
    go_enter Tryd.func76, Tryd.ntmps76
    go_wp2
    go_ret
    exact ⟨rfl, rfl⟩
set_option maxRecDepth 100000 in
set_option maxHeartbeats 1000000 in
theorem lx_word (c : Nat) (w : World) : Calls Tryd.prog 64 #[.int .u8 c] w fun e w' => e = .returned (.bool (isWd c)) ∧ w = w' := by
  obtain ⟨b1, h1⟩ : ∃ b, isL c = b := ⟨_, rfl⟩
  obtain ⟨b2, h2⟩ : ∃ b, isD c = b := ⟨_, rfl⟩
  have K1 : Hid (∀ W, Calls Tryd.prog 65 #[.int .u8 c] W fun e w' => e = .returned (.bool b1) ∧ W = w') := Lib.hid fun W => by rw [← h1]; exact lx_letter c W
  have K2 : Hid (∀ W, Calls Tryd.prog 76 #[.int .u8 c] W fun e w' => e = .returned (.bool b2) ∧ W = w') := Lib.hid fun W => by rw [← h2]; exact lx_digit c W
  have e : isWd c = (b1 || (b2 || decide (c = 95))) := by unfold isWd; rw [h1, h2]
  rw [e]
  have H1 := Lib.hid h1
  clear e h1 h2
  by_cases h3 : c = 95
  · subst h3
    cases b1 <;> cases b2
    all_goals
      go_enter Tryd.func64, Tryd.ntmps64
      go_wp2_with (first
        | (go_at_call 65; refine (K1.out _).mono ?_; rintro e w1 ⟨rfl, rfl⟩)
        | (go_at_call 76; refine (K2.out _).mono ?_; rintro e w1 ⟨rfl, rfl⟩))
      go_ret
      exact ⟨rfl, rfl⟩
  · have g3 : ((c : Int) == 95) = false := by rw [beq_eq_false_iff_ne]; omega
    have g4 : ¬ (c : Int) = 95 := by omega
    rw [decide_eq_false h3, Bool.or_false]
    cases b1 <;> cases b2
    all_goals
      go_enter Tryd.func64, Tryd.ntmps64
      go_wp2_with (first
        | (go_at_call 65; refine (K1.out _).mono ?_; rintro e w1 ⟨rfl, rfl⟩)
        | (go_at_call 76; refine (K2.out _).mono ?_; rintro e w1 ⟨rfl, rfl⟩))
      go_ret
      exact ⟨rfl, rfl⟩
set_option maxRecDepth 100000 in
set_option maxHeartbeats 1000000 in
theorem st_has2 (s p : ByteArray) (w : World) : Calls Tryd.prog 50 #[.string s, .string p] w fun e w' => e = .returned (.bool (hpB s p)) ∧ w = w' := by
  have K : Hid (∀ W, Calls Tryd.prog 67 #[.string s, .string p] W fun e w' => e = .returned (.bool (hpB s p)) ∧ W = w') := Lib.hid fun W => st_has s p W
  generalize hpB s p = b at K ⊢
  go_enter Tryd.func50, Tryd.ntmps50
  go_wp2_with (go_at_call 67; refine (K.out _).mono ?_; rintro e w1 ⟨rfl, rfl⟩)
  go_ret
  exact ⟨rfl, rfl⟩
/-- how many bytes of words come from place k on, n at most -/
def wrunN (s : ByteArray) : Nat → Nat → Nat
  | 0, _ => 0
  | n + 1, k => if k < s.size ∧ isWd (bt s k) = true then wrunN s n (k + 1) + 1 else 0
def wrun (s : ByteArray) (k : Nat) : Nat := wrunN s (s.size - k) k
theorem wrunN_stop (s : ByteArray) (n k : Nat) (h : ¬ (k < s.size ∧ isWd (bt s k) = true)) : wrunN s n k = 0 := by
  cases n with
  | zero => rfl
  | succ n => rw [wrunN, if_neg h]
theorem wrun_step (s : ByteArray) (k : Nat) (h : k < s.size) (hw : isWd (bt s k) = true) : wrun s k = wrun s (k + 1) + 1 := by
  unfold wrun
  rw [show s.size - k = (s.size - (k + 1)) + 1 by omega, wrunN, if_pos ⟨h, hw⟩]
theorem wrun_stop (s : ByteArray) (k : Nat) (h : ¬ (k < s.size ∧ isWd (bt s k) = true)) : wrun s k = 0 := wrunN_stop s _ k h
theorem wrun_le (s : ByteArray) (k : Nat) : k ≤ s.size → k + wrun s k ≤ s.size := by
  intro hk
  obtain ⟨d, hd⟩ : ∃ d, d = s.size - k := ⟨_, rfl⟩
  induction d generalizing k with
  | zero => rw [wrun_stop s k (by intro h; omega)]; omega
  | succ d ih =>
    by_cases h : k < s.size ∧ isWd (bt s k) = true
    · rw [wrun_step s k h.1 h.2]; have := ih (k + 1) (by omega) (by omega); omega
    · rw [wrun_stop s k h]; omega
set_option maxRecDepth 100000 in
set_option maxHeartbeats 2000000 in
theorem lx_wordAt (s : ByteArray) (at_ : Nat) (ha : at_ ≤ s.size) (hs : s.size < 9223372036854775807) (w : World) :
    Calls Tryd.prog 47 #[.string s, .int .i64 at_] w fun e w' => e = .returned (.string (s.extract at_ (at_ + wrun s at_))) ∧ w = w' := by
  go_enter Tryd.func47, Tryd.ntmps47
  go_wp2
  go_loopw [5] (fun i w' => ∃ k : Nat, at_ ≤ k ∧ k ≤ s.size ∧ i = .int .i64 k ∧ Hid (k + wrun s k = at_ + wrun s at_) ∧ w = w') (fun i _ => s.size - (intOf i).toNat)
  case atStart => exact ⟨at_, Nat.le_refl _, ha, rfl, Lib.hid rfl, rfl⟩
  case round =>
    obtain ⟨k, hk0, hk, rfl, HE, rfl⟩ := hrel
    by_cases hlt : k < s.size
    · have h1 : (k : Int) < (s.size : Int) := by omega
      obtain ⟨c, hc⟩ : ∃ c, bt s k = c := ⟨_, rfl⟩
      have hbyte : (s[k]'hlt).toNat = c := by rw [bt_at, hc]
      obtain ⟨b, hb⟩ : ∃ b, isWd c = b := ⟨_, rfl⟩
      have KW : Hid (∀ W, Calls Tryd.prog 64 #[.int .u8 (c : Int)] W fun e w' => e = .returned (.bool b) ∧ W = w') := Lib.hid fun W => by rw [← hb]; exact lx_word c W
      have HC := Lib.hid hc
      have HBb := Lib.hid hb
      clear hc hb
      cases b
      · have hfin : at_ + wrun s at_ = k := by
          have h0 := wrun_stop s k (fun h => by have := h.2; rw [HC.out, HBb.out] at this; cases this)
          have := HE.out; omega
        have h2 : (at_ : Int) ≤ (k : Int) := by omega
        have HFIN := Lib.hid hfin
        clear hfin
        go_wp2_with (go_at_call 64; refine (KW.out _).mono ?_; rintro e w1 ⟨rfl, rfl⟩)
        go_ret
        exact ⟨by rw [HFIN.out]; rfl, rfl⟩
      · have hst := wrun_step s k hlt (by rw [HC.out]; exact HBb.out)
        have HST := Lib.hid hst
        clear hst
        go_wp2_with (go_at_call 64; refine (KW.out _).mono ?_; rintro e w1 ⟨rfl, rfl⟩)
        go_roundw
        case rel => (go_light; exact ⟨k + 1, by omega, by omega, by simp, Lib.hid (by have := HE.out; have := HST.out; omega), by trivial⟩)
        case measure => simp [intOf]; omega
    · have h1 : ¬ (k : Int) < (s.size : Int) := by omega
      have hfin : at_ + wrun s at_ = k := by
        have h0 := wrun_stop s k (fun h => hlt h.1)
        have := HE.out; omega
      have h2 : (at_ : Int) ≤ (k : Int) := by omega
      have hks : (k : Int) ≤ (s.size : Int) := by omega
      have HFIN := Lib.hid hfin
      clear hfin
      go_wp2
      go_ret
      exact ⟨by rw [HFIN.out]; rfl, rfl⟩
end
/- Package lexer: copies of texts, kinds of words, tokens. -/
section
open Go.RowKit

set_option maxRecDepth 100000 in
set_option maxHeartbeats 4000000 in
theorem st_clone0 (s : ByteArray) (hs : s.size ≤ 100000) (w : World) : Calls Tryd.prog 31 #[.string s] w (RetX (.string s) w) := by
  by_cases h0 : s.size = 0
  · have e : s = ⟨#[]⟩ := ByteArray.ext (Array.eq_empty_of_size_eq_zero h0)
    subst e
    go_enter Tryd.func31, Tryd.ntmps31
    go_wp2
    go_ret
    exact ⟨rfl, Below.refl _ _⟩
  · obtain ⟨i0, hi0⟩ : ∃ i, Tryd.prog.info? 5 = some i := Option.isSome_iff_exists.1 (by kernel_rfl)
    have hz0 : i0.zero = some (.int .u8 0) := by
      have : (Tryd.prog.info? 5).map (·.zero) = some (some (.int .u8 0)) := by kernel_rfl
      rw [hi0] at this; simpa using this
    have hz1 : i0.size = 1 := by
      have : (Tryd.prog.info? 5).map (·.size) = some 1 := by kernel_rfl
      rw [hi0] at this; simpa using this
    have hz2 : i0.bytes = 1 := by
      have : (Tryd.prog.info? 5).map (·.bytes) = some 1 := by kernel_rfl
      rw [hi0] at this; simpa using this
    have hinfo : (Tryd.prog.info? 5).map (·.size) = some 1 := by rw [hi0]; simp [hz1]
    have hco : Tryd.prog.cellsOf 5 = 1 := by simp [Program.cellsOf, hi0, hz1]
    obtain ⟨M, hM⟩ : ∃ M, M = madeCells (Value.int .u8 0).cells (((s.size : Nat) : Int).toNat * i0.size) := ⟨_, rfl⟩
    have hMs : M.size = s.size := by rw [hM, size_madeCells, hz1]; simp
    have hmk : ∀ W : World, (Instr.makeSlice 31 (.int .i64 (s.size : Int)) (.int .i64 (s.size : Int))).run Tryd.prog W = .ok (.slice (some ⟨W.heap.size, 0, none⟩) s.size s.size) (W.alloc (.cells M 5)) := fun W => by
      have h := run_make (P := Tryd.prog) W 31 5 i0 (.int .u8 0) Tryd.underlying31 hi0 hz0 .i64 .i64 (s.size : Int) (s.size : Int) (by omega) (by omega) (by rw [hz2]; omega) (by omega)
      rw [← hM] at h
      simpa using h
    clear hM
    have hcp := Lib.run_copy_row_string (P := Tryd.prog) (w.alloc (.cells M 5)) 31 9 3 5 w.heap.size 0 s.size s.size s M 5 Tryd.underlying31 hinfo (heap_alloc_new w _) (Nat.le_refl _) (by omega)
    obtain ⟨Y, hY⟩ : ∃ Y, Y = (M.toList.take 0 ++ Lib.byteCells s.data.toList ++ M.toList.drop (0 + s.size)).toArray := ⟨_, rfl⟩
    rw [← hY] at hcp
    have hYl : Y.toList = Lib.byteCells s.data.toList := by
      rw [hY, List.toList_toArray, List.take_zero, List.nil_append, List.drop_of_length_le (by rw [Array.length_toList]; omega), List.append_nil]
    have hYs : Y.size = s.size := by rw [← Array.length_toList, hYl, Lib.byteCells_length, ← Lib.size_eq]
    have hgY : ((w.alloc (.cells M 5)).setRow w.heap.size Y).heap[w.heap.size]? = some (.cells Y 5 (0, 0)) := setRow_heap _ _ M _ 5 (0, 0) (heap_alloc_new w _)
    have hne : s.data.toList ≠ [] := fun e => h0 (by rw [Lib.size_eq, e]; rfl)
    have hUS := Lib.run_unsafeString_row (P := Tryd.prog) (w := (w.alloc (.cells M 5)).setRow w.heap.size Y) 149 3 9 5 Tryd.underlying149 hco w.heap.size Y.size (by unfold World.shape?; rw [hgY]) s.data.toList hne (by rw [← Lib.size_eq]; omega) (by rw [← Lib.size_eq]; omega)
      (fun j x hx => Lib.cells_of_row hgY Y.size j _ (by rw [List.take_of_length_le (by rw [Array.length_toList]; exact Nat.le_refl _), hYl]; simp [Lib.byteCells, hx]))
    rw [← Lib.size_eq] at hUS
    clear hY
    go_enter Tryd.func31, Tryd.ntmps31
    go_wp2
    go_ret
    have hb1 : Below w.heap.size w (w.alloc (.cells M 5)) := (Below.refl _ w).alloc (Nat.le_refl _) _
    have hb2 : Below w.heap.size (w.alloc (.cells M 5)) ((w.alloc (.cells M 5)).setRow w.heap.size Y) := ⟨rfl, rfl, rfl, by simp, fun k hk => setRow_other _ _ _ _ (by omega)⟩
    exact ⟨rfl, Lib.below_freeze (hb1.trans hb2) (p := ⟨w.heap.size, 0, none⟩) (Nat.le_refl _) _⟩
set_option maxRecDepth 100000 in
set_option maxHeartbeats 1000000 in
theorem st_clone (s : ByteArray) (hs : s.size ≤ 100000) (w : World) : Calls Tryd.prog 19 #[.string s] w (RetX (.string s) w) := by
  go_enter Tryd.func19, Tryd.ntmps19
  go_wp2_with (go_at_call 31; refine (st_clone0 s hs _).mono ?_; rintro e w1 ⟨rfl, hb⟩)
  go_ret
  exact ⟨rfl, hb⟩
set_option maxRecDepth 100000 in
set_option maxHeartbeats 1000000 in
theorem lx_isLit (s : ByteArray) (hs : s.size < 9223372036854775807) (w : World) : Calls Tryd.prog 66 #[.string s] w (RetX (.bool (litV s).isSome) w) := by
  have K : Hid (∀ W, Calls Tryd.prog 77 #[.string s] W (RetNB (((litV s).getD 0 : Nat) : Int) (litV s).isSome W)) := Lib.hid fun W => nn_literal s hs W
  generalize (((litV s).getD 0 : Nat) : Int) = z at K
  generalize (litV s).isSome = o at K ⊢
  go_enter Tryd.func66, Tryd.ntmps66
  go_wp2_with (go_at_call 77; refine (K.out _).mono ?_; rintro e w1 ⟨rfl, hb⟩)
  go_ret
  exact ⟨rfl, hb.alloc hb.size _⟩
/-- a word's kind: 2 a name, 1 a literal, 0 neither -/
def kindN (s : ByteArray) : Nat := if isL (bt s 0) = true then 2 else if (litV s).isSome = true then 1 else 0
/-- two results -/
def RetKB (k : Int) (b : Bool) (w : World) (e : Ending) (w' : World) : Prop := e = .returned (.tuple #[.int .i64 k, .bool b]) ∧ Below w.heap.size w w'
set_option maxRecDepth 100000 in
set_option maxHeartbeats 2000000 in
theorem lx_kindOf (s : ByteArray) (h0 : 0 < s.size) (hs : s.size < 9223372036854775807) (w : World) : Calls Tryd.prog 48 #[.string s] w (RetKB (kindN s : Nat) (decide (kindN s ≠ 0)) w) := by
  have KL : Hid (∀ W, Calls Tryd.prog 66 #[.string s] W (RetX (.bool (litV s).isSome) W)) := Lib.hid fun W => lx_isLit s hs W
  obtain ⟨o, ho⟩ : ∃ o, (litV s).isSome = o := ⟨_, rfl⟩
  obtain ⟨c, hc⟩ : ∃ c, bt s 0 = c := ⟨_, rfl⟩
  have hbyte : (s[0]'h0).toNat = c := by rw [bt_at, hc]
  obtain ⟨b, hb⟩ : ∃ b, isL c = b := ⟨_, rfl⟩
  have KC : Hid (∀ W, Calls Tryd.prog 65 #[.int .u8 (c : Int)] W fun e w' => e = .returned (.bool b) ∧ W = w') := Lib.hid fun W => by rw [← hb]; exact lx_letter c W
  have h1 : (0 : Int) < (s.size : Int) := by omega
  have hk : kindN s = if b = true then 2 else if o = true then 1 else 0 := by unfold kindN; rw [hc, hb, ho]
  rw [hk]
  rw [ho] at KL
  clear hc hb ho hk
  cases b
  · cases o
    · go_enter Tryd.func48, Tryd.ntmps48
      go_wp2_with (first
        | (go_at_call 65; refine (KC.out _).mono ?_; rintro e w1 ⟨rfl, rfl⟩)
        | (go_at_call 66; refine (KL.out _).mono ?_; rintro e w1 ⟨rfl, hb2⟩))
      refine bodyPost_ret (v := .tuple #[.int .i64 0, .bool false]) (by simp [results, Tryd.results48, go_sem]) rfl ⟨by simp, hb2⟩
    · go_enter Tryd.func48, Tryd.ntmps48
      go_wp2_with (first
        | (go_at_call 65; refine (KC.out _).mono ?_; rintro e w1 ⟨rfl, rfl⟩)
        | (go_at_call 66; refine (KL.out _).mono ?_; rintro e w1 ⟨rfl, hb2⟩))
      refine bodyPost_ret (v := .tuple #[.int .i64 1, .bool true]) (by simp [results, Tryd.results48, go_sem]) rfl ⟨by simp, hb2⟩
  · go_enter Tryd.func48, Tryd.ntmps48
    go_wp2_with (first
      | (go_at_call 65; refine (KC.out _).mono ?_; rintro e w1 ⟨rfl, rfl⟩)
      | (go_at_call 66; refine (KL.out _).mono ?_; rintro e w1 ⟨rfl, hb2⟩))
    refine bodyPost_ret (v := .tuple #[.int .i64 2, .bool true]) (by simp [results, Tryd.results48, go_sem]) rfl ⟨by simp, Below.refl _ _⟩
set_option maxRecDepth 100000 in
set_option maxHeartbeats 2000000 in
theorem lx_token (k : Int) (s : ByteArray) (a : Int) (hs : s.size ≤ 100000) (w : World) : Calls Tryd.prog 49 #[.int .i64 k, .string s, .int .i64 a] w (RetX (.agg #[.int .i64 k, .string s, .int .i64 a]) w) := by
  go_enter Tryd.func49, Tryd.ntmps49
  go_wp2_with (go_at_call 19; refine (st_clone s hs _).mono ?_; rintro e w1 ⟨rfl, hb⟩; obtain ⟨hc, hf, hz⟩ := after (w.heap.size + 1) hb (by simp) (by simp))
  refine bodyPost_ret (v := .agg #[.int .i64 k, .string s, .int .i64 a]) (by simp [results, Tryd.results49, go_sem, hc]) rfl ⟨rfl, ?_⟩
  exact ((((((Below.refl _ _).alloc (by simp) _).trans (hb.mono (by simp))).setCell (by simp) _).setCell (by simp) _).setCell (by simp) _)
end
end Go.Proofs.YtodmkmoglchoeaaDoor
