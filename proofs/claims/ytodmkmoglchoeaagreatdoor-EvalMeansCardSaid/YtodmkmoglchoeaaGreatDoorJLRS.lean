/- Contracts, joined: LRef, LRScan. -/
import Derived.Test.YtodmkmoglchoeaaGreatDoorJLScan
import Derived.Test.YtodmkmoglchoeaaGreatDoorJRead
namespace Go.Proofs.YtodmkmoglchoeaaGreatDoor
/- matchguardref06: part, word, symbol. -/
section
open Go.RowKit

set_option maxRecDepth 100000 in
set_option maxHeartbeats 2000000 in
theorem lr_part (c : Nat) (w : World) : Calls Tryz.prog 118 #[.int .u8 c] w fun e w' => e = .returned (.bool (isWd c)) ∧ w = w' := by
  have hcases : (97 ≤ c ∧ c ≤ 122) ∨ (48 ≤ c ∧ c ≤ 57) ∨ c = 95 ∨ (c < 48) ∨ (58 ≤ c ∧ c ≤ 94) ∨ c = 96 ∨ 123 ≤ c := by omega
  have fin : ∀ b : Bool, isWd c = b → (b = true ↔ ((97 ≤ c ∧ c ≤ 122) ∨ (48 ≤ c ∧ c ≤ 57) ∨ c = 95)) := fun b hb => by
    rw [← hb]; unfold isWd isL isD
    simp only [Bool.or_eq_true, Bool.and_eq_true, decide_eq_true_eq]
  obtain ⟨b, hb⟩ : ∃ b, isWd c = b := ⟨_, rfl⟩
  have hb2 := fin b hb
  rw [hb]
  clear fin hb
  have z1 : ((c : Int) == 95) = decide (c = 95) := by
    by_cases h : c = 95
    · subst h; rfl
    · rw [decide_eq_false h, beq_eq_false_iff_ne]; omega
  rcases hcases with h | h | h | h | h | h | h
  · obtain rfl : b = true := hb2.2 (.inl h)
    have g1 : (97 : Int) ≤ (c : Int) := by omega
    have g2 : (c : Int) ≤ 122 := by omega
    have n1 := h.1
    have n2 := h.2
    clear hb2 z1 h
    go_enter Tryz.func118, Tryz.ntmps118
    go_wp2
    go_ret
    exact ⟨rfl, rfl⟩
  · obtain rfl : b = true := hb2.2 (.inr (.inl h))
    have g1 : ¬ (97 : Int) ≤ (c : Int) := by omega
    have g2 : (48 : Int) ≤ (c : Int) := by omega
    have g3 : (c : Int) ≤ 57 := by omega
    have n1 : ¬ 97 ≤ c := by omega
    have n2 := h.1
    have n3 := h.2
    clear hb2 z1 h
    go_enter Tryz.func118, Tryz.ntmps118
    go_wp2
    go_ret
    exact ⟨rfl, rfl⟩
  · obtain rfl : b = true := hb2.2 (.inr (.inr h))
    subst h
    clear hb2 z1
    go_enter Tryz.func118, Tryz.ntmps118
    go_wp2
    go_ret
    exact ⟨rfl, rfl⟩
  · obtain rfl : b = false := by cases b; rfl; have := hb2.1 rfl; omega
    have g1 : ¬ (97 : Int) ≤ (c : Int) := by omega
    have g2 : ¬ (48 : Int) ≤ (c : Int) := by omega
    have n1 : ¬ 97 ≤ c := by omega
    have n2 : ¬ 48 ≤ c := by omega
    rw [decide_eq_false (by omega)] at z1
    clear hb2 h
    go_enter Tryz.func118, Tryz.ntmps118
    go_wp2
    go_ret
    exact ⟨rfl, rfl⟩
  · obtain rfl : b = false := by cases b; rfl; have := hb2.1 rfl; omega
    have g1 : ¬ (97 : Int) ≤ (c : Int) := by omega
    have g2 : (48 : Int) ≤ (c : Int) := by omega
    have g3 : ¬ (c : Int) ≤ 57 := by omega
    have n1 : ¬ 97 ≤ c := by omega
    have n2 : 48 ≤ c := by omega
    have n3 : ¬ c ≤ 57 := by omega
    rw [decide_eq_false (by omega)] at z1
    clear hb2 h
    go_enter Tryz.func118, Tryz.ntmps118
    go_wp2
    go_ret
    exact ⟨rfl, rfl⟩
  · obtain rfl : b = false := by cases b; rfl; have := hb2.1 rfl; omega
    subst h
    clear hb2 z1
    go_enter Tryz.func118, Tryz.ntmps118
    go_wp2
    go_ret
    exact ⟨rfl, rfl⟩
  · obtain rfl : b = false := by cases b; rfl; have := hb2.1 rfl; omega
    have g1 : (97 : Int) ≤ (c : Int) := by omega
    have g2 : ¬ (c : Int) ≤ 122 := by omega
    have g3 : (48 : Int) ≤ (c : Int) := by omega
    have g4 : ¬ (c : Int) ≤ 57 := by omega
    have n1 : 97 ≤ c := by omega
    have n2 : ¬ c ≤ 122 := by omega
    have n3 : 48 ≤ c := by omega
    have n4 : ¬ c ≤ 57 := by omega
    rw [decide_eq_false (by omega)] at z1
    clear hb2 h
    go_enter Tryz.func118, Tryz.ntmps118
    go_wp2
    go_ret
    exact ⟨rfl, rfl⟩
set_option maxRecDepth 100000 in
set_option maxHeartbeats 2000000 in
theorem lr_word (s : ByteArray) (hs : s.size < 9223372036854775807) (w : World) :
    Calls Tryz.prog 89 #[.string s] w fun e w' => e = .returned (.int .i64 (wrun s 0 : Nat)) ∧ w = w' := by
  go_enter Tryz.func89, Tryz.ntmps89
  go_wp2
  go_loopw [3] (fun i w' => ∃ k : Nat, k ≤ s.size ∧ i = .int .i64 k ∧ Hid (k + wrun s k = wrun s 0) ∧ w = w') (fun i _ => s.size - (intOf i).toNat)
  case atStart => exact ⟨0, Nat.zero_le _, rfl, Lib.hid (Nat.zero_add _), rfl⟩
  case round =>
    obtain ⟨k, hk, rfl, HE, rfl⟩ := hrel
    by_cases hlt : k < s.size
    · have h1 : (k : Int) < (s.size : Int) := by omega
      obtain ⟨c, hc⟩ : ∃ c, bt s k = c := ⟨_, rfl⟩
      have hbyte : (s[k]'hlt).toNat = c := by rw [bt_at, hc]
      obtain ⟨b, hb⟩ : ∃ b, isWd c = b := ⟨_, rfl⟩
      have KW : Hid (∀ W, Calls Tryz.prog 118 #[.int .u8 (c : Int)] W fun e w' => e = .returned (.bool b) ∧ W = w') := Lib.hid fun W => by rw [← hb]; exact lr_part c W
      have HC := Lib.hid hc
      have HBb := Lib.hid hb
      clear hc hb
      cases b
      · have hfin : wrun s 0 = k := by
          have h0 := wrun_stop s k (fun h => by have := h.2; rw [HC.out, HBb.out] at this; cases this)
          have := HE.out; omega
        have HFIN := Lib.hid hfin
        clear hfin
        go_wp2_with (go_at_call 118; refine (KW.out _).mono ?_; rintro e w1 ⟨rfl, rfl⟩)
        go_ret
        exact ⟨by rw [HFIN.out]; rfl, rfl⟩
      · have hst := wrun_step s k hlt (by rw [HC.out]; exact HBb.out)
        have HST := Lib.hid hst
        clear hst
        go_wp2_with (go_at_call 118; refine (KW.out _).mono ?_; rintro e w1 ⟨rfl, rfl⟩)
        go_roundw
        case rel => (go_light; exact ⟨k + 1, by omega, by simp, Lib.hid (by have := HE.out; have := HST.out; omega), by trivial⟩)
        case measure => simp [intOf]; omega
    · have h1 : ¬ (k : Int) < (s.size : Int) := by omega
      have hfin : wrun s 0 = k := by
        have h0 := wrun_stop s k (fun h => hlt h.1)
        have := HE.out; omega
      have HFIN := Lib.hid hfin
      clear hfin
      go_wp2
      go_ret
      exact ⟨by rw [HFIN.out]; rfl, rfl⟩
def symsA : Array Value := #[.string ⟨#[38, 38]⟩, .string ⟨#[124, 124]⟩, .string ⟨#[45, 62]⟩, .string ⟨#[61, 61]⟩, .string ⟨#[33, 61]⟩, .string ⟨#[60, 61]⟩, .string ⟨#[62, 61]⟩, .string ⟨#[58, 58]⟩, .string ⟨#[40]⟩, .string ⟨#[41]⟩, .string ⟨#[33]⟩, .string ⟨#[60]⟩, .string ⟨#[62]⟩, .string ⟨#[43]⟩, .string ⟨#[45]⟩]
theorem symsA_lit : symsA = #[.string ⟨#[38, 38]⟩, .string ⟨#[124, 124]⟩, .string ⟨#[45, 62]⟩, .string ⟨#[61, 61]⟩, .string ⟨#[33, 61]⟩, .string ⟨#[60, 61]⟩, .string ⟨#[62, 61]⟩, .string ⟨#[58, 58]⟩, .string ⟨#[40]⟩, .string ⟨#[41]⟩, .string ⟨#[33]⟩, .string ⟨#[60]⟩, .string ⟨#[62]⟩, .string ⟨#[43]⟩, .string ⟨#[45]⟩] := rfl
theorem symsA_at : ∀ i, i < 15 → symsA[i]? = some (.string (symK i)) := by
  intro i hi
  have h : i = 0 ∨ i = 1 ∨ i = 2 ∨ i = 3 ∨ i = 4 ∨ i = 5 ∨ i = 6 ∨ i = 7 ∨ i = 8 ∨ i = 9 ∨ i = 10 ∨ i = 11 ∨ i = 12 ∨ i = 13 ∨ i = 14 := by omega
  rcases h with rfl | rfl | rfl | rfl | rfl | rfl | rfl | rfl | rfl | rfl | rfl | rfl | rfl | rfl | rfl <;> rfl
/-- how long the symbol is with which a text begins -/
def symLen (t : ByteArray) : Nat := match symL.find? (fun x => hpB t x) with
  | some x => x.size
  | none => 0
set_option maxRecDepth 100000 in
set_option maxHeartbeats 4000000 in
theorem lr_symbol (t : ByteArray) (_hs : t.size < 9223372036854775807) (w : World) :
    Calls Tryz.prog 88 #[.string t] w (RetX (.int .i64 (symLen t : Nat)) w) := by
  obtain ⟨n, hn⟩ : ∃ n, symLen t = n := ⟨_, rfl⟩
  rw [hn]
  have HN := Lib.hid hn
  clear hn
  go_enter Tryz.func88, Tryz.ntmps88
  go_wp2
  rw [← symsA_lit]
  have hW : Hid (Below w.heap.size w (w.alloc (.cells symsA 9)) ∧ ∀ i, i < 15 → (w.alloc (.cells symsA 9)).cell? ⟨w.heap.size, i, none⟩ = some (.string (symK i))) := Lib.hid ⟨(Below.refl _ _).alloc (by simp) _, fun i hi => by rw [World.cell?_alloc_new]; exact symsA_at i hi⟩
  generalize w.alloc (.cells symsA 9) = W1 at hW ⊢
  go_loopw [7] (fun j w' => ∃ k : Nat, k ≤ 15 ∧ j = .int .i64 k ∧ Hid ((symL.drop k).find? (fun x => hpB t x) = symL.find? (fun x => hpB t x)) ∧ w' = W1) (fun j _ => 15 - (intOf j).toNat)
  case atStart => exact ⟨0, by omega, rfl, Lib.hid rfl, rfl⟩
  case round =>
    obtain ⟨k, hk, rfl, HF, rfl⟩ := hrel
    by_cases hk15 : k < 15
    · have hkI : (k : Int) < 15 := by omega
      obtain ⟨y, hy⟩ : ∃ y, symK k = y := ⟨_, rfl⟩
      have hcell := hW.out.2 k hk15
      rw [hy] at hcell
      obtain ⟨b, hb⟩ : ∃ b, hpB t y = b := ⟨_, rfl⟩
      have hdr := HF.out
      rw [sym_drop k hk15, List.find?_cons, hy, hb] at hdr
      have HDR := Lib.hid hdr
      clear hdr hy
      have hbb := hb
      unfold hpB at hbb
      by_cases hz : y.size ≤ t.size
      · have hzI : (y.size : Int) ≤ (t.size : Int) := by omega
        rw [decide_eq_true hz, Bool.true_and] at hbb
        cases b
        · have HDR2 : Hid ((symL.drop (k + 1)).find? (fun x => hpB t x) = symL.find? (fun x => hpB t x)) := Lib.hid HDR.out
          clear hb
          go_wp2
          go_roundw
          case rel => (go_light; exact ⟨k + 1, by omega, by simp, HDR2, by trivial⟩)
          case measure => simp [intOf]; omega
        · have hfin : n = y.size := by
            rw [← HN.out]; unfold symLen; rw [← HDR.out]
          have HFIN := Lib.hid hfin
          clear hfin hb
          go_wp2
          go_ret
          exact ⟨by rw [HFIN.out]; rfl, hW.out.1⟩
      · have hzI : ¬ (y.size : Int) ≤ (t.size : Int) := by omega
        rw [decide_eq_false hz, Bool.false_and] at hbb
        subst hbb
        have HDR2 : Hid ((symL.drop (k + 1)).find? (fun x => hpB t x) = symL.find? (fun x => hpB t x)) := Lib.hid HDR.out
        clear hb
        go_wp2
        go_roundw
        case rel => (go_light; exact ⟨k + 1, by omega, by simp, HDR2, by trivial⟩)
        case measure => simp [intOf]; omega
    · have hkI : ¬ (k : Int) < 15 := by omega
      have hfin : n = 0 := by
        rw [← HN.out]; unfold symLen
        rw [← HF.out, List.drop_eq_nil_of_le (show symL.length ≤ k by show 15 ≤ k; omega)]
        rfl
      have HFIN := Lib.hid hfin
      clear hfin
      go_wp2
      go_ret
      exact ⟨by rw [HFIN.out]; rfl, hW.out.1⟩
end
/- matchguardref06: Scan. -/
section
open Go.RowKit

theorem bt_ext2 (s : ByteArray) (a b i : Nat) (hb : b ≤ s.size) (h : a + i < b) : bt (s.extract a b) i = bt s (a + i) := by
  have hs : a + i < s.size := by omega
  have e : (s.extract a b).data.toList[i]? = some (s[a + i]'hs) := by
    rw [ByteArray.data_extract, Array.toList_extract, List.extract_eq_take_drop, List.getElem?_take_of_lt (by omega), List.getElem?_drop, pr_get s (a + i) hs]
  rw [bt_of _ _ _ e, bt_at]
theorem ext_size (s : ByteArray) (a b : Nat) (hb : b ≤ s.size) : (s.extract a b).size = b - a := by rw [ByteArray.size_extract]; omega
theorem wrun_ext (s : ByteArray) (a : Nat) (ha : a ≤ s.size) : ∀ d k, d = s.size - (a + k) → a + k ≤ s.size → wrun (s.extract a s.size) k = wrun s (a + k) := by
  intro d
  induction d with
  | zero =>
    intro k hd hk
    rw [wrun_stop s (a + k) (fun h => by omega), wrun_stop _ k (fun h => by have := h.1; rw [ext_size s a s.size (Nat.le_refl _)] at this; omega)]
  | succ d ih =>
    intro k hd hk
    have hz := ext_size s a s.size (Nat.le_refl _)
    have hbt := bt_ext2 s a s.size k (Nat.le_refl _) (by omega)
    by_cases h : isWd (bt s (a + k)) = true
    · rw [wrun_step s (a + k) (by omega) h, wrun_step _ k (by omega) (by rw [hbt]; exact h), ih (k + 1) (by omega) (by omega)]
      rfl
    · rw [wrun_stop s (a + k) (fun h2 => h h2.2), wrun_stop _ k (fun h2 => h (by rw [← hbt]; exact h2.2))]
theorem wrun_ext0 (s : ByteArray) (a : Nat) (ha : a ≤ s.size) : wrun (s.extract a s.size) 0 = wrun s a := by
  have h := wrun_ext s a ha _ 0 rfl (by omega)
  exact h
theorem hp_ext (s x : ByteArray) (a : Nat) (ha : a ≤ s.size) (h : hpB (s.extract a s.size) x = true) : a + x.size ≤ s.size ∧ s.extract a (a + x.size) = x := by
  unfold hpB at h
  rw [Bool.and_eq_true, decide_eq_true_iff, beq_iff_eq, ByteArray.toList_eq, ByteArray.toList_eq, ext_size s a s.size (Nat.le_refl _)] at h
  have hle : a + x.size ≤ s.size := by omega
  refine ⟨hle, ?_⟩
  apply ByteArray.ext
  apply Array.ext'
  rw [← h.2]
  simp only [ByteArray.data_extract, Array.toList_extract, List.extract_eq_take_drop]
  rw [List.drop_zero, List.take_take]
  congr 1
  have := x.size
  omega
theorem lit_under (x : ByteArray) (h0 : 0 < x.size) (h : bt x 0 = 95) : litV x = none := by
  have hp : ¬ hpB x x0 = true := fun hb => by
    have := hp_head x x0 (by decide) hb
    rw [h] at this
    revert this; decide
  unfold litV litS litB
  rw [if_neg hp, if_neg hp, if_pos h0]
  exact pv_none (k := 1) (by rw [pv, pv, Option.bind_some, if_neg (by rw [h]; intro h2; have := h2.1; revert this; decide)]) (by omega)
theorem own_blk_lt {w : World} {B e sz n k : Nat} {v : Value} {l : List Value} (h : w.ownsRow B e sz v n l) (hk : v.ownBlock = some k) : k < w.heap.size := by
  rcases h.2 with ⟨rfl, _⟩ | ⟨g, cap, cur, rfl, hb, hh, _⟩
  · simp [Value.ownBlock] at hk
  · have e : g = k := by simpa [Value.ownBlock] using hk
    subst e
    exact (Array.getElem?_eq_some_iff.1 hh).1
theorem sym_pos : ∀ x ∈ symL, 1 ≤ x.size := by decide
/-- the token in its box -/
structure TB (w : World) (b : Nat) (v0 v1 v2 : Value) : Prop where
  lt : b < w.heap.size
  c0 : w.cell? ⟨b, 0, none⟩ = some v0
  c1 : w.cell? ⟨b, 1, none⟩ = some v1
  c2 : w.cell? ⟨b, 2, none⟩ = some v2
  f : ∀ i, i < 3 → w.frozen? ⟨b, i, none⟩ = false
theorem TB.call {w w' : World} {b : Nat} {v0 v1 v2 : Value} (h : TB w b v0 v1 v2) (hb : Below w.heap.size w w') : TB w' b v0 v1 v2 :=
  ⟨Nat.lt_of_lt_of_le h.lt hb.size, by rw [hb.cell (p := ⟨b, 0, none⟩) h.lt]; exact h.c0, by rw [hb.cell (p := ⟨b, 1, none⟩) h.lt]; exact h.c1, by rw [hb.cell (p := ⟨b, 2, none⟩) h.lt]; exact h.c2, fun i hi => by rw [hb.frozen (p := ⟨b, i, none⟩) h.lt]; exact h.f i hi⟩
theorem TB.new (w : World) (v0 v1 v2 : Value) (t : TypeId) : TB (w.alloc (.cells #[v0, v1, v2] t)) w.heap.size v0 v1 v2 :=
  ⟨by simp, by simp [go_sem], by simp [go_sem], by simp [go_sem], fun i _ => by simp [go_sem]⟩
theorem TB.set0 {w : World} {b : Nat} {v0 v1 v2 : Value} (h : TB w b v0 v1 v2) (v : Value) : TB (w.setCell ⟨b, 0, none⟩ v) b v v1 v2 :=
  ⟨by rw [World.size_setCell]; exact h.lt, World.cell?_setCell_same _ _ _ h.c0, by rw [set_other _ _ _ _ _ (by decide)]; exact h.c1, by rw [set_other _ _ _ _ _ (by decide)]; exact h.c2, fun i hi => by rw [set_froz]; exact h.f i hi⟩
theorem TB.set1 {w : World} {b : Nat} {v0 v1 v2 : Value} (h : TB w b v0 v1 v2) (v : Value) : TB (w.setCell ⟨b, 1, none⟩ v) b v0 v v2 :=
  ⟨by rw [World.size_setCell]; exact h.lt, by rw [set_other _ _ _ _ _ (by decide)]; exact h.c0, World.cell?_setCell_same _ _ _ h.c1, by rw [set_other _ _ _ _ _ (by decide)]; exact h.c2, fun i hi => by rw [set_froz]; exact h.f i hi⟩

/-- the reference's end -/
def RetRScan (R : List Tok × Nat × Nat) (w : World) (e : Ending) (w' : World) : Prop := ∃ A cap, e = .returned (.tuple #[.slice A R.1.length cap, .int .i64 (R.2.1 : Nat), .int .i64 (R.2.2 : Nat)]) ∧ w'.ownsRow w.heap.size 194 3 (.slice A R.1.length cap) R.1.length (tcells R.1) ∧ Below w.heap.size w w'
structure LexR (w : World) (toks : List Tok) (v : Value) (w' : World) : Prop where
  below : Below w.heap.size w w'
  own : w'.ownsRow w.heap.size 194 3 v toks.length (tcells toks)
theorem LexR.call {w w1 w2 : World} {toks : List Tok} {v : Value} (h : LexR w toks v w1) (hb : Below w1.heap.size w1 w2) : LexR w toks v w2 :=
  ⟨h.below.trans (hb.mono h.below.size), own_below2 h.own hb⟩
theorem LexR.set {w w1 : World} {toks : List Tok} {v u : Value} {b i : Nat} (h : LexR w toks v w1) (hb : w.heap.size ≤ b) (hne : v.ownBlock ≠ some b) : LexR w toks v (w1.setCell ⟨b, i, none⟩ u) :=
  ⟨h.below.setCell hb _, h.own.kept (grown_set w1 b i u) (.inr hne)⟩
theorem LexR.app {w W W2 : World} {toks : List Tok} {t : Tok} {v v' : Value} (h : LexR w toks v W) (o : Obj) (hO : W2.ownsRow w.heap.size 194 3 v' (toks.length + 1) (tcells toks ++ tcell t)) (hg : (W.alloc o).grownBy W2 v.ownBlock) : LexR w (toks ++ [t]) v' W2 := by
  refine ⟨(h.below.alloc h.below.size o).grown hg (Nat.le_trans h.below.size (by simp)) (fun k hk => own_block_ge h.own hk), ?_⟩
  rw [List.length_append, tcells_snoc]
  exact hO

set_option maxRecDepth 100000 in
set_option maxHeartbeats 8000000 in
theorem lr_scan (s : ByteArray) (hs : s.size < 9223372036854775807) (w : World) : Calls Tryz.prog 53 #[.string s] w (RetRScan (scan s) w) := by
  by_cases h400 : 400 < s.size
  · have h1 : (400 : Int) < (s.size : Int) := by omega
    have e : scan s = ([], 0, 3) := by unfold scan; rw [if_pos h400]
    rw [e]
    clear e
    go_enter Tryz.func53, Tryz.ntmps53
    go_wp2
    refine bodyPost_ret (v := .tuple #[.slice none 0 0, .int .i64 0, .int .i64 3]) (by simp [results, Tryz.results53, go_sem]) rfl ⟨none, 0, rfl, World.ownsRow_nil _ _ _ _, Below.refl _ _⟩
  · obtain ⟨R, hR⟩ : ∃ R, R = scanN s s.size 0 [] := ⟨_, rfl⟩
    have e : scan s = R := by unfold scan; rw [if_neg h400, hR]
    rw [e]
    have HR := Lib.hid hR
    have h1 : ¬ (400 : Int) < (s.size : Int) := by omega
    obtain ⟨i0, hi0⟩ : ∃ i, Tryz.prog.info? 194 = some i := Option.isSome_iff_exists.1 (by kernel_rfl)
    have hz0 : i0.zero = some (.agg #[.int .i64 0, .string ⟨#[]⟩, .int .i64 0]) := by
      have : (Tryz.prog.info? 194).map (·.zero) = some (some (.agg #[.int .i64 0, .string ⟨#[]⟩, .int .i64 0])) := by kernel_rfl
      rw [hi0] at this; simpa using this
    have hy1 : i0.size = 3 := by
      have : (Tryz.prog.info? 194).map (·.size) = some 3 := by kernel_rfl
      rw [hi0] at this; simpa using this
    have hy2 : i0.bytes = 32 := by
      have : (Tryz.prog.info? 194).map (·.bytes) = some 32 := by kernel_rfl
      rw [hi0] at this; simpa using this
    have HI := Lib.hid hi0
    have HZ := Lib.hid hz0
    have HY1 := Lib.hid hy1
    have HY2 := Lib.hid hy2
    clear hi0 hz0 hy1 hy2 e hR
    go_enter Tryz.func53, Tryz.ntmps53
    go_wp2
    go_loopw [5, 6] (fun v i w' => ∃ (a f : Nat) (toks : List Tok), a ≤ s.size ∧ s.size ≤ f + a ∧ toks.length ≤ a ∧ i = .int .i64 a ∧ Hid (scanN s f a toks = R) ∧ LexR w toks v w') (fun _ i _ => s.size - (intOf i).toNat)
    case atStart => exact ⟨0, s.size, [], by omega, by omega, by simp, rfl, Lib.hid HR.out.symm, Below.refl _ _, World.ownsRow_nil _ _ _ _⟩
    case round =>
      obtain ⟨a, f, toks, ha, hf, hta, rfl, HS, hL⟩ := hrel
      obtain ⟨A, cap, rfl⟩ := own_form2 hL.own
      have HL := Lib.hid hL
      clear hL
      by_cases hlt : a < s.size
      · have h2 : (a : Int) < (s.size : Int) := by omega
        obtain ⟨f1, rfl⟩ : ∃ f1, f = f1 + 1 := ⟨f - 1, by omega⟩
        obtain ⟨c, hc⟩ : ∃ c, bt s a = c := ⟨_, rfl⟩
        have hbyte : (s[a]'hlt).toNat = c := by rw [bt_at, hc]
        have HC := Lib.hid hc
        clear hc
        by_cases hsp : c = 32
        · have hS2 : scanN s f1 (a + 1) toks = R := by
            have h := HS.out
            rw [scanN, if_pos hlt, HC.out, if_pos hsp] at h
            exact h
          have HS2 := Lib.hid hS2
          subst hsp
          clear hS2
          go_wp2
          go_roundw
          case rel => (go_light; exact ⟨a + 1, f1, toks, by omega, by omega, by omega, by simp, HS2, HL.out⟩)
          case measure => simp [intOf]; omega
        · have hspI : ((c : Int) == 32) = false := by rw [beq_eq_false_iff_ne]; omega
          have hS2 : (match nextTok s a with | some t => scanN s f1 (a + t.text.size) (toks ++ [t]) | none => (([] : List Tok), a, 10)) = R := by
            have h := HS.out
            rw [scanN, if_pos hlt, HC.out, if_neg hsp] at h
            exact h
          have HS2 := Lib.hid hS2
          obtain ⟨n, hn⟩ : ∃ n, wrun s a = n := ⟨_, rfl⟩
          have hle := wrun_le s a ha
          rw [hn] at hle
          have HN := Lib.hid hn
          obtain ⟨t, ht⟩ : ∃ t, s.extract a s.size = t := ⟨_, rfl⟩
          have hts : t.size < 9223372036854775807 := by rw [← ht, ext_size s a s.size (Nat.le_refl _)]; omega
          have KW : Hid (∀ W, Calls Tryz.prog 89 #[.string t] W fun e w' => e = .returned (.int .i64 (n : Nat)) ∧ W = w') := Lib.hid fun W => by
            have h := lr_word t hts W
            rw [← ht, wrun_ext0 s a ha, hn, ht] at h
            exact h
          obtain ⟨m, hm⟩ : ∃ m, symLen t = m := ⟨_, rfl⟩
          have KS : Hid (∀ W, Calls Tryz.prog 88 #[.string t] W (RetX (.int .i64 (m : Nat)) W)) := Lib.hid fun W => by rw [← hm]; exact lr_symbol t hts W
          have HT := Lib.hid ht
          have HM := Lib.hid hm
          have hai : (a : Int) ≤ (s.size : Int) := by omega
          have hs1 : s.size ≤ 400 := by omega
          have hTw : w.heap.size ≤ wr.heap.size := HL.out.below.size
          have hne : (Value.slice A toks.length cap).ownBlock ≠ some wr.heap.size := fun h => by have := own_blk_lt HL.out.own h; omega
          clear hS2 hn hm hsp hts
          go_wp2_with fail
          go_at_call 88
          (try rw [ht])
          refine (KS.out _).mono ?_
          rintro e w1 ⟨rfl, hb1⟩
          have al : Below wr.heap.size wr (wr.alloc (.cells #[.int .i64 3, .string ⟨#[]⟩, .int .i64 a] 194)) := (Below.refl _ _).alloc (by simp) _
          have HT1 := Lib.hid ((TB.new wr (.int .i64 3) (.string ⟨#[]⟩) (.int .i64 a) 194).call hb1)
          have HL1 := Lib.hid ((HL.out.call al).call hb1)
          have HTL := Lib.hid (show wr.heap.size < w1.heap.size by have := hb1.size; simp at this; omega)
          clear al hb1 HL
          generalize wr.heap.size = Tb at HT1 hTw hne HTL ⊢
          go_wp2_with fail
          go_at_call 89
          (try rw [ht])
          refine (KW.out _).mono ?_
          rintro e w2 ⟨rfl, rfl⟩
          have b0 := HT1.out.c0
          have f0 := HT1.out.f 0 (by decide)
          by_cases hn0 : 0 < n
          · have hn0I : (0 : Int) < (n : Int) := by omega
            have hnn : ((n : Int) == 0) = false := by rw [beq_eq_false_iff_ne]; omega
            obtain ⟨x, hx⟩ : ∃ x, s.extract a (a + n) = x := ⟨_, rfl⟩
            have hxs : x.size = n := by rw [← hx, ext_size s a (a + n) hle]; omega
            have hx0 : bt x 0 = c := by rw [← hx, bt_ext2 s a (a + n) 0 hle (by omega)]; exact HC.out
            have hwd : isWd c = true := by
              cases hb : isWd c
              · have h0 := wrun_stop s a (fun h => by have := h.2; rw [HC.out, hb] at this; cases this)
                rw [HN.out] at h0; omega
              · rfl
            have hwr : IntKind.i64.wrap ((a : Int) + (n : Int)) = (a : Int) + (n : Int) := IntWalk.i64_in _ (by omega)
            have han : (a : Int) + (n : Int) ≤ (s.size : Int) := by omega
            have hwds : (97 ≤ c ∧ c ≤ 122) ∨ (48 ≤ c ∧ c ≤ 57) ∨ c = 95 := by
              unfold isWd isL isD at hwd
              simp only [Bool.or_eq_true, Bool.and_eq_true, decide_eq_true_eq] at hwd
              exact hwd
            have HX := Lib.hid hx
            have hnt : nextTok s a = if kindN x ≠ 0 then some ⟨kindN x, x, a⟩ else none := by unfold nextTok; rw [HN.out, if_pos hn0, HX.out]
            have HNT := Lib.hid hnt
            have HX0 := Lib.hid hx0
            clear hwd hnt hx0
            rcases hwds with hc1 | hc1 | hc1
            · have hk : kindN x = 2 := by
                have hl : isL c = true := by unfold isL; simp [hc1.1, hc1.2]
                unfold kindN; rw [HX0.out, if_pos hl]
              have hS3 : scanN s f1 (a + n) (toks ++ [⟨2, x, a⟩]) = R := by
                have h := HS2.out
                rw [HNT.out, if_pos (by rw [hk]; decide), hk] at h
                simpa [hxs] using h
              have HS3 := Lib.hid hS3
              have g1 : ((c : Int) == 95) = false := by rw [beq_eq_false_iff_ne]; omega
              have g2 : ¬ (c : Int) ≤ 57 := by omega
              have g3 : ¬ c ≤ 57 := by omega
              clear hS3 hk
              have HT2 := Lib.hid (HT1.out.set0 (.int .i64 2))
              have HL2 := Lib.hid (HL1.out.set (b := Tb) (i := 0) (u := .int .i64 2) hTw (fun h => hne h))
              go_upto_region 13 with fail
              generalize w1.setCell ⟨Tb, 0, none⟩ (.int .i64 2) = W2 at HT2 HL2 ⊢
              clear b0 f0
              have HT8 := Lib.hid (HT2.out.set1 (.string x))
              have HL8 := Lib.hid (HL2.out.set (b := Tb) (i := 1) (u := .string x) hTw (fun h => hne h))
              have c1b := HT2.out.c1
              have f1b := HT2.out.f 1 (by decide)
              go_upto_region 23 with fail
              clear c1b f1b
              generalize W2.setCell ⟨Tb, 1, none⟩ (.string x) = W8 at HT8 HL8 ⊢
              have d0 := HT8.out.c0
              have d1 := HT8.out.c1
              have d2 := HT8.out.c2
              go_wp2_with (at_builtin; (refine wpList_append_own _ rfl (.tmp 72) (.tmp 74) 132 rfl w.heap.size 194 i0 _ 3 32 Tryz.underlying132 HI.out HZ.out HY1.out HY2.out rfl (by decide) _ toks.length _ rfl (World.ownsRow.alloc HL8.out.own _) ⟨W8.heap.size, 0, none⟩ 1 1 (tcell ⟨2, x, a⟩) rfl rfl (World.news_of_block (cs := (tcell ⟨2, x, a⟩).toArray) (t := 194) (fr := (0, 0)) (heap_alloc_new W8 _)) (tcell_one _) (by unfold maxLen; omega) (by omega) (by have := HL8.out.below.size; simp; omega) ?_; intro v4 w4 hO4 hg4 hi4; clear hi4; obtain ⟨A4, cap4, rfl⟩ := own_form2 hO4; have HL4 := Lib.hid (HL8.out.app _ hO4 hg4); clear hO4 hg4))
              go_roundw
              case rel => (go_light; exact ⟨a + n, f1, toks ++ [⟨2, x, a⟩], by omega, by omega, by rw [List.length_append]; simp; omega, by simp, HS3, HL4.out⟩)
              case measure => simp [intOf]; omega
            · have hl : isL c = false := by unfold isL; rw [decide_eq_false (show ¬ 97 ≤ c by omega), Bool.false_and]
              obtain ⟨ov, ho⟩ : ∃ o, (litV x).isSome = o := ⟨_, rfl⟩
              obtain ⟨z, hz⟩ : ∃ z : Int, z = (((litV x).getD 0 : Nat) : Int) := ⟨_, rfl⟩
              have hk : kindN x = if ov = true then 1 else 0 := by
                unfold kindN; rw [HX0.out, hl, if_neg (by decide), ho]
              have KLt : Hid (∀ W, Calls Tryz.prog 90 #[.string x] W (RetFB z ov W)) := Lib.hid fun W => by rw [hz, ← ho]; exact ri_literal x (by omega) W
              have HK := Lib.hid hk
              have g1 : ((c : Int) == 95) = false := by rw [beq_eq_false_iff_ne]; omega
              have g2 : (c : Int) ≤ 57 := by omega
              have g3 : c ≤ 57 := hc1.2
              clear hl ho hz hk
              have HT2 := Lib.hid (HT1.out.set0 (.int .i64 2))
              have HL2 := Lib.hid (HL1.out.set (b := Tb) (i := 0) (u := .int .i64 2) hTw (fun h => hne h))
              go_upto_region 13 with fail
              generalize w1.setCell ⟨Tb, 0, none⟩ (.int .i64 2) = W2 at HT2 HL2 ⊢
              clear b0 f0
              have b0 := HT2.out.c0
              have f0 := HT2.out.f 0 (by decide)
              have HT3 := Lib.hid (HT2.out.set0 (.int .i64 1))
              have HL3 := Lib.hid (HL2.out.set (b := Tb) (i := 0) (u := .int .i64 1) hTw (fun h => hne h))
              go_upto_region 17 with fail
              generalize W2.setCell ⟨Tb, 0, none⟩ (.int .i64 1) = W3 at HT3 HL3 ⊢
              clear b0 f0
              go_wp2_with fail
              go_at_call 90
              (try rw [hx])
              refine (KLt.out _).mono ?_
              rintro e w4 ⟨s5, A5, n5, c5, rfl, hI5, hb4⟩
              have al : Below w4.heap.size w4 (w4.alloc (.cells #[.bool s5, .slice A5 n5 c5] 197)) := (Below.refl _ _).alloc (by simp) _
              have HT5 := Lib.hid ((HT3.out.call hb4).call al)
              have HL5 := Lib.hid ((HL3.out.call hb4).call al)
              clear al hb4 hI5
              cases ov
              · have hR2 : R = ([], a, 10) := by
                  rw [← HS2.out, HNT.out, HK.out]; simp
                have HR2 := Lib.hid hR2
                clear hR2
                go_wp2
                refine bodyPost_ret (v := .tuple #[.slice none 0 0, .int .i64 a, .int .i64 10]) (by simp [results, Tryz.results53, go_sem]) rfl ?_
                rw [HR2.out]
                exact ⟨none, 0, rfl, World.ownsRow_nil _ _ _ _, HL5.out.below⟩
              · have hS3 : scanN s f1 (a + n) (toks ++ [⟨1, x, a⟩]) = R := by
                  have h := HS2.out
                  rw [HNT.out, HK.out] at h
                  simpa [hxs] using h
                have HS3 := Lib.hid hS3
                clear hS3
                go_upto_region 18 with fail
                generalize w4.alloc (.cells #[.bool s5, .slice A5 n5 c5] 197) = W5 at HT5 HL5 ⊢
                have HT8 := Lib.hid (HT5.out.set1 (.string x))
                have HL8 := Lib.hid (HL5.out.set (b := Tb) (i := 1) (u := .string x) hTw (fun h => hne h))
                have c1b := HT5.out.c1
                have f1b := HT5.out.f 1 (by decide)
                go_upto_region 23 with fail
                clear c1b f1b
                generalize W5.setCell ⟨Tb, 1, none⟩ (.string x) = W8 at HT8 HL8 ⊢
                have d0 := HT8.out.c0
                have d1 := HT8.out.c1
                have d2 := HT8.out.c2
                go_wp2_with (at_builtin; (refine wpList_append_own _ rfl (.tmp 72) (.tmp 74) 132 rfl w.heap.size 194 i0 _ 3 32 Tryz.underlying132 HI.out HZ.out HY1.out HY2.out rfl (by decide) _ toks.length _ rfl (World.ownsRow.alloc HL8.out.own _) ⟨W8.heap.size, 0, none⟩ 1 1 (tcell ⟨1, x, a⟩) rfl rfl (World.news_of_block (cs := (tcell ⟨1, x, a⟩).toArray) (t := 194) (fr := (0, 0)) (heap_alloc_new W8 _)) (tcell_one _) (by unfold maxLen; omega) (by omega) (by have := HL8.out.below.size; simp; omega) ?_; intro v4 w4 hO4 hg4 hi4; clear hi4; obtain ⟨A4, cap4, rfl⟩ := own_form2 hO4; have HL4 := Lib.hid (HL8.out.app _ hO4 hg4); clear hO4 hg4))
                go_roundw
                case rel => (go_light; exact ⟨a + n, f1, toks ++ [⟨1, x, a⟩], by omega, by omega, by rw [List.length_append]; simp; omega, by simp, HS3, HL4.out⟩)
                case measure => simp [intOf]; omega
            · subst hc1
              have hk : kindN x = 0 := by
                have hl : isL 95 = false := by decide
                unfold kindN; rw [HX0.out, hl, if_neg (by decide), lit_under x (by omega) HX0.out]
                rfl
              have hR2 : R = ([], a, 10) := by
                rw [← HS2.out, HNT.out, hk]; simp
              have HR2 := Lib.hid hR2
              have HL2 := Lib.hid (HL1.out.set (b := Tb) (i := 0) (u := .int .i64 2) hTw (fun h => hne h))
              clear hk hR2
              go_wp2
              refine bodyPost_ret (v := .tuple #[.slice none 0 0, .int .i64 a, .int .i64 10]) (by simp [results, Tryz.results53, go_sem]) rfl ?_
              rw [HR2.out]
              exact ⟨none, 0, rfl, World.ownsRow_nil _ _ _ _, HL2.out.below⟩
          · have hn00 : n = 0 := by omega
            have hn0I : ¬ (0 : Int) < (n : Int) := by omega
            have hS3 : (match symAt s a with | some y => scanN s f1 (a + y.size) (toks ++ [⟨3, y, a⟩]) | none => (([] : List Tok), a, 10)) = R := by
              rw [← HS2.out]; unfold nextTok; rw [HN.out, if_neg hn0]
              cases symAt s a <;> rfl
            have hsa : symAt s a = symL.find? (fun x => hpB t x) := by unfold symAt; rw [HT.out]
            have hML := HM.out
            unfold symLen at hML
            rw [← hsa] at hML
            cases hy : symAt s a with
            | none =>
              rw [hy] at hS3 hML
              have hm0 : m = 0 := hML.symm
              subst hm0
              have hR2 : R = ([], a, 10) := hS3.symm
              have HR2 := Lib.hid hR2
              clear hS3 hsa hML hR2 hy
              go_wp2
              refine bodyPost_ret (v := .tuple #[.slice none 0 0, .int .i64 a, .int .i64 10]) (by simp [results, Tryz.results53, go_sem]) rfl ?_
              rw [HR2.out]
              exact ⟨none, 0, rfl, World.ownsRow_nil _ _ _ _, HL1.out.below⟩
            | some x =>
              rw [hy] at hS3 hML
              have hmx : m = x.size := hML.symm
              have hxm : 1 ≤ x.size := by
                have h := hy
                rw [hsa] at h
                exact sym_pos x (List.mem_of_find?_eq_some h)
              have hhp : hpB (s.extract a s.size) x = true := by
                have h := hy
                unfold symAt at h
                exact List.find?_some h
              obtain ⟨hle2, hex⟩ := hp_ext s x a ha hhp
              have hx : s.extract a (a + m) = x := by rw [hmx]; exact hex
              have hxs : x.size = m := hmx.symm
              have hS4 : scanN s f1 (a + m) (toks ++ [⟨3, x, a⟩]) = R := by rw [hmx]; exact hS3
              have HS4 := Lib.hid hS4
              have hwr : IntKind.i64.wrap ((a : Int) + (m : Int)) = (a : Int) + (m : Int) := IntWalk.i64_in _ (by omega)
              have han : (a : Int) + (m : Int) ≤ (s.size : Int) := by omega
              have ham : a + m ≤ s.size := by omega
              have hmm : ((m : Int) == 0) = false := by rw [beq_eq_false_iff_ne]; omega
              have hm1 : 1 ≤ m := by omega
              have hm0 : ¬ m = 0 := by omega
              clear hS3 hsa hML hy hmx hhp hex hle2 hS4 hxm b0 f0
              have HT8 := Lib.hid (HT1.out.set1 (.string x))
              have HL8 := Lib.hid (HL1.out.set (b := Tb) (i := 1) (u := .string x) hTw (fun h => hne h))
              have c1b := HT1.out.c1
              have f1b := HT1.out.f 1 (by decide)
              go_upto_region 23 with fail
              clear c1b f1b
              generalize w1.setCell ⟨Tb, 1, none⟩ (.string x) = W8 at HT8 HL8 ⊢
              have d0 := HT8.out.c0
              have d1 := HT8.out.c1
              have d2 := HT8.out.c2
              go_wp2_with (at_builtin; (refine wpList_append_own _ rfl (.tmp 72) (.tmp 74) 132 rfl w.heap.size 194 i0 _ 3 32 Tryz.underlying132 HI.out HZ.out HY1.out HY2.out rfl (by decide) _ toks.length _ rfl (World.ownsRow.alloc HL8.out.own _) ⟨W8.heap.size, 0, none⟩ 1 1 (tcell ⟨3, x, a⟩) rfl rfl (World.news_of_block (cs := (tcell ⟨3, x, a⟩).toArray) (t := 194) (fr := (0, 0)) (heap_alloc_new W8 _)) (tcell_one _) (by unfold maxLen; omega) (by omega) (by have := HL8.out.below.size; simp; omega) ?_; intro v4 w4 hO4 hg4 hi4; clear hi4; obtain ⟨A4, cap4, rfl⟩ := own_form2 hO4; have HL4 := Lib.hid (HL8.out.app _ hO4 hg4); clear hO4 hg4))
              go_roundw
              case rel => (go_light; exact ⟨a + m, f1, toks ++ [⟨3, x, a⟩], by omega, by omega, by rw [List.length_append]; simp; omega, by simp, HS4, HL4.out⟩)
              case measure => simp [intOf]; omega
      · have e : a = s.size := by omega
        have hR2 : R = (toks, 0, 0) := by rw [← HS.out, e]; exact scanN_end s f toks
        have HR2 := Lib.hid hR2
        have h2 : ¬ (a : Int) < (s.size : Int) := by omega
        clear hR2 e
        go_wp2
        refine bodyPost_ret (v := .tuple #[.slice A toks.length cap, .int .i64 0, .int .i64 0]) (by simp [results, Tryz.results53, go_sem]) rfl ?_
        rw [HR2.out]
        exact ⟨A, cap, rfl, HL.out.own, HL.out.below⟩
end
end Go.Proofs.YtodmkmoglchoeaaGreatDoor
