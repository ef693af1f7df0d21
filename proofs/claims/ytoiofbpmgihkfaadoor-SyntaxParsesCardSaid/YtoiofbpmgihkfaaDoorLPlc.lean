/- LexerPlaces, pure: an accepted text is its tokens at their places, and spaces. -/
import Derived.Test.YtoiofbpmgihkfaaDoorLScansW
namespace Go.Proofs.YtoiofbpmgihkfaaDoor
open Go.RowKit

/-- a token covers a place -/
def cov (l : List Tok) (j : Nat) : Bool := l.any fun t => decide (t.at_ ≤ j) && decide (j < t.at_ + t.text.size)
theorem cov_snoc (l : List Tok) (t : Tok) (j : Nat) : cov (l ++ [t]) j = (cov l j || (decide (t.at_ ≤ j) && decide (j < t.at_ + t.text.size))) := by
  unfold cov; rw [List.any_append]; simp
structure Plcd (s : ByteArray) (l : List Tok) (a : Nat) : Prop where
  fit : ∀ t ∈ l, t.at_ + t.text.size ≤ a ∧ ∀ i, i < t.text.size → bt t.text i = bt s (t.at_ + i)
  spc : ∀ j, j < a → cov l j = false → bt s j = 32
theorem nextTok_spec (s : ByteArray) (a : Nat) (ha : a < s.size) (t : Tok) (h : nextTok s a = some t) : t.at_ = a ∧ 1 ≤ t.text.size ∧ a + t.text.size ≤ s.size ∧ t.text = s.extract a (a + t.text.size) := by
  unfold nextTok at h
  split at h
  · rename_i hw
    split at h
    · injection h with h
      subst h
      have h1 := wrun_le s a (by omega)
      have h2 := ext_size s a (a + wrun s a) h1
      refine ⟨rfl, ?_, ?_, ?_⟩
      · show 1 ≤ (s.extract a (a + wrun s a)).size; omega
      · show a + (s.extract a (a + wrun s a)).size ≤ _; omega
      · show s.extract a (a + wrun s a) = s.extract a (a + (s.extract a (a + wrun s a)).size)
        rw [show a + (s.extract a (a + wrun s a)).size = a + wrun s a by omega]
    · cases h
  · cases hy : symAt s a with
    | none => rw [hy] at h; cases h
    | some x =>
      rw [hy] at h
      injection h with h
      subst h
      have h1 := hy
      unfold symAt at h1
      have h2 := hp_ext s x a (by omega) (List.find?_some h1)
      exact ⟨rfl, sym_pos x (List.mem_of_find?_eq_some h1), h2.1, h2.2.symm⟩
theorem scanN_plcd (s : ByteArray) : ∀ (f a : Nat) (l : List Tok), a ≤ s.size → s.size ≤ f + a → Plcd s l a → (scanN s f a l).2.2 = 0 → Plcd s (scanN s f a l).1 s.size := by
  intro f
  induction f with
  | zero =>
    intro a l ha hf hp _
    obtain rfl : a = s.size := by omega
    exact hp
  | succ f ih =>
    intro a l ha hf hp h0
    rw [scanN] at h0 ⊢
    by_cases hlt : a < s.size
    · rw [if_pos hlt] at h0 ⊢
      by_cases hsp : bt s a = 32
      · rw [if_pos hsp] at h0 ⊢
        refine ih (a + 1) l (by omega) (by omega) ⟨fun t ht => ⟨by have := (hp.fit t ht).1; omega, (hp.fit t ht).2⟩, fun j hj hc => ?_⟩ h0
        by_cases e : j = a
        · rw [e]; exact hsp
        · exact hp.spc j (by omega) hc
      · rw [if_neg hsp] at h0 ⊢
        cases hn : nextTok s a with
        | none => rw [hn] at h0; cases h0
        | some t =>
          rw [hn] at h0
          obtain ⟨e1, e2, e3, e4⟩ := nextTok_spec s a hlt t hn
          refine ih (a + t.text.size) (l ++ [t]) e3 (by omega) ⟨fun u hu => ?_, fun j hj hc => ?_⟩ h0
          · rcases List.mem_append.1 hu with hu | hu
            · exact ⟨by have := (hp.fit u hu).1; omega, (hp.fit u hu).2⟩
            · obtain rfl : u = t := by simpa using hu
              refine ⟨by omega, fun i hi => ?_⟩
              rw [e1, e4]
              exact bt_ext2 s a _ i e3 (by omega)
          · rw [cov_snoc, Bool.or_eq_false_iff] at hc
            refine hp.spc j ?_ hc.1
            have h2 := hc.2
            rw [e1] at h2
            simp at h2
            omega
    · rw [if_neg hlt] at h0 ⊢
      obtain rfl : a = s.size := by omega
      exact hp
theorem scan_plcd (s : ByteArray) (h : (scan s).2.2 = 0) : Plcd s (scan s).1 s.size := by
  unfold scan at h ⊢
  by_cases h4 : 400 < s.size
  · rw [if_pos h4] at h; cases h
  · rw [if_neg h4] at h ⊢
    exact scanN_plcd s s.size 0 [] (by omega) (by omega) ⟨fun t ht => absurd ht (by simp), fun j hj => by omega⟩ h
theorem scanN_fail (s : ByteArray) : ∀ (f a : Nat) (l : List Tok), (scanN s f a l).2.2 ≠ 0 → (scanN s f a l).1 = [] := by
  intro f
  induction f with
  | zero => intro a l h; exact absurd rfl h
  | succ f ih =>
    intro a l h
    rw [scanN] at h ⊢
    by_cases hlt : a < s.size
    · rw [if_pos hlt] at h ⊢
      by_cases hsp : bt s a = 32
      · rw [if_pos hsp] at h ⊢; exact ih _ _ h
      · rw [if_neg hsp] at h ⊢
        cases hn : nextTok s a with
        | none => rfl
        | some t => rw [hn] at h; exact ih _ _ h
    · rw [if_neg hlt] at h; exact absurd rfl h
theorem scan_fail (s : ByteArray) (h : (scan s).2.2 ≠ 0) : (scan s).1 = [] := by
  unfold scan at h ⊢
  by_cases h4 : 400 < s.size
  · rw [if_pos h4]
  · rw [if_neg h4] at h ⊢; exact scanN_fail s _ _ _ h
theorem scanN_pos (s : ByteArray) : ∀ (f a : Nat) (l : List Tok), (∀ t ∈ l, 1 ≤ t.text.size) → ∀ t ∈ (scanN s f a l).1, 1 ≤ t.text.size := by
  intro f
  induction f with
  | zero => intro a l h; exact h
  | succ f ih =>
    intro a l h
    rw [scanN]
    by_cases hlt : a < s.size
    · rw [if_pos hlt]
      by_cases hsp : bt s a = 32
      · rw [if_pos hsp]; exact ih _ _ h
      · rw [if_neg hsp]
        cases hn : nextTok s a with
        | none => intro t ht; simp at ht
        | some t =>
          refine ih _ _ (fun u hu => ?_)
          rcases List.mem_append.1 hu with hu | hu
          · exact h u hu
          · obtain rfl : u = t := by simpa using hu
            exact (nextTok_spec s a hlt u hn).2.1
    · rw [if_neg hlt]; exact h
theorem scan_pos (s : ByteArray) : ∀ t ∈ (scan s).1, 1 ≤ t.text.size := by
  unfold scan
  split
  · intro t ht; simp at ht
  · exact scanN_pos s _ _ _ (fun t ht => absurd ht (by simp))
/-- what lies in the row when the tokens l have been laid over the spaces -/
def fillB (s : ByteArray) (l : List Tok) (j : Nat) : Nat := if cov l j = true then bt s j else 32
theorem fill_done {s : ByteArray} {l : List Tok} (h : Plcd s l s.size) : strG s.size (fillB s l) = s := by
  apply ByteArray.ext
  apply Array.ext'
  unfold strG
  rw [pr_dl, List.map_map]
  apply List.ext_getElem?
  intro i
  by_cases hi : i < s.size
  · rw [pr_get s i hi, List.getElem?_map, List.getElem?_range hi]
    simp only [Option.map_some, Function.comp_apply, Option.some.injEq]
    have e : fillB s l i = bt s i := by
      unfold fillB
      cases hc : cov l i
      · rw [if_neg (by decide), h.spc i hi hc]
      · rw [if_pos rfl]
    rw [e, ← bt_at s i hi]
    simp
  · rw [List.getElem?_eq_none (by simp; omega), List.getElem?_eq_none (by rw [Array.length_toList]; show s.size ≤ i; omega)]
end Go.Proofs.YtoiofbpmgihkfaaDoor
