/- Contracts, joined: LScansW, LPlc, LJn. -/
import Derived.Test.YtodmkmoglchoeaaGreatDoorLSame
import Derived.Lib.ConvBytes
namespace Go.Proofs.YtodmkmoglchoeaaGreatDoor
/- LexerScans, its walk. -/
section
open Go.RowKit

theorem scanN_len (s : ByteArray) : ∀ (f a : Nat) (l : List Tok), l.length ≤ a → a ≤ s.size → (scanN s f a l).1.length ≤ s.size := by
  intro f
  induction f with
  | zero => intro a l h1 h2; show l.length ≤ _; omega
  | succ f ih =>
    intro a l h1 h2
    rw [scanN]
    split
    · rename_i hlt
      split
      · exact ih (a + 1) l (by omega) (by omega)
      · cases hn : nextTok s a with
        | none => simp
        | some t =>
          have hp : 1 ≤ t.text.size ∧ a + t.text.size ≤ s.size := by
            unfold nextTok at hn
            split at hn
            · rename_i hw
              split at hn
              · injection hn with hn
                subst hn
                have h := wrun_le s a (by omega)
                simp only
                rw [ext_size s a _ h]
                omega
              · cases hn
            · cases hy : symAt s a with
              | none => rw [hy] at hn; cases hn
              | some x =>
                rw [hy] at hn
                injection hn with hn
                subst hn
                have h := hy
                unfold symAt at h
                exact ⟨sym_pos x (List.mem_of_find?_eq_some h), (hp_ext s x a (by omega) (List.find?_some h)).1⟩
          exact ih (a + t.text.size) (l ++ [t]) (by rw [List.length_append]; simp; omega) hp.2
    · show l.length ≤ _; omega
theorem scan_len (s : ByteArray) : (scan s).1.length ≤ 400 := by
  unfold scan
  split
  · simp
  · have := scanN_len s s.size 0 [] (by simp) (by omega); omega
/-- four texts in memory -/
def Four4 (w : World) (B : Nat) (Sx : Nat → ByteArray) : Prop := B < w.heap.size ∧ ∀ j, j < 4 → w.cell? ⟨B, j, none⟩ = some (.string (Sx j))
theorem Four4.call {w w' : World} {B : Nat} {Sx : Nat → ByteArray} (h : Four4 w B Sx) (hb : Below w.heap.size w w') : Four4 w' B Sx := ⟨Nat.lt_of_lt_of_le h.1 hb.size, fun j hj => by rw [hb.cell (p := ⟨B, j, none⟩) h.1]; exact h.2 j hj⟩
end
/- LexerPlaces, pure: an accepted text is its tokens at their places, and spaces. -/
section
open Go.RowKit

/-- a token covers a place -/
def cov (l : List Tok) (j : Nat) : Bool := l.any fun t => decide (t.at_ ≤ j) && decide (j < t.at_ + t.text.size)
theorem cov_snoc (l : List Tok) (t : Tok) (j : Nat) : cov (l ++ [t]) j = (cov l j || (decide (t.at_ ≤ j) && decide (j < t.at_ + t.text.size))) := by
  unfold cov; rw [List.any_append]; simp
structure Plcd (s : ByteArray) (l : List Tok) (a : Nat) : Prop where
  fit : ∀ t ∈ l, t.at_ + t.text.size ≤ a ∧ ∀ i, i < t.text.size → bt t.text i = bt s (t.at_ + i)
  spc : ∀ j, j < a → cov l j = false → bt s j = 32
theorem nextTok_spec (s : ByteArray) (a : Nat) (ha : a < s.size) (t : Tok) (h : nextTok s a = some t) : t.at_ = a ∧ 1 ≤ t.text.size ∧ a + t.text.size ≤ s.size ∧ t.text = s.extract a (a + t.text.size) := by
  unfold nextTok at h
  split at h
  · rename_i hw
    split at h
    · injection h with h
      subst h
      have h1 := wrun_le s a (by omega)
      have h2 := ext_size s a (a + wrun s a) h1
      refine ⟨rfl, ?_, ?_, ?_⟩
      · show 1 ≤ (s.extract a (a + wrun s a)).size; omega
      · show a + (s.extract a (a + wrun s a)).size ≤ _; omega
      · show s.extract a (a + wrun s a) = s.extract a (a + (s.extract a (a + wrun s a)).size)
        rw [show a + (s.extract a (a + wrun s a)).size = a + wrun s a by omega]
    · cases h
  · cases hy : symAt s a with
    | none => rw [hy] at h; cases h
    | some x =>
      rw [hy] at h
      injection h with h
      subst h
      have h1 := hy
      unfold symAt at h1
      have h2 := hp_ext s x a (by omega) (List.find?_some h1)
      exact ⟨rfl, sym_pos x (List.mem_of_find?_eq_some h1), h2.1, h2.2.symm⟩
theorem scanN_plcd (s : ByteArray) : ∀ (f a : Nat) (l : List Tok), a ≤ s.size → s.size ≤ f + a → Plcd s l a → (scanN s f a l).2.2 = 0 → Plcd s (scanN s f a l).1 s.size := by
  intro f
  induction f with
  | zero =>
    intro a l ha hf hp _
    obtain rfl : a = s.size := by omega
    exact hp
  | succ f ih =>
    intro a l ha hf hp h0
    rw [scanN] at h0 ⊢
    by_cases hlt : a < s.size
    · rw [if_pos hlt] at h0 ⊢
      by_cases hsp : bt s a = 32
      · rw [if_pos hsp] at h0 ⊢
        refine ih (a + 1) l (by omega) (by omega) ⟨fun t ht => ⟨by have := (hp.fit t ht).1; omega, (hp.fit t ht).2⟩, fun j hj hc => ?_⟩ h0
        by_cases e : j = a
        · rw [e]; exact hsp
        · exact hp.spc j (by omega) hc
      · rw [if_neg hsp] at h0 ⊢
        cases hn : nextTok s a with
        | none => rw [hn] at h0; cases h0
        | some t =>
          rw [hn] at h0
          obtain ⟨e1, e2, e3, e4⟩ := nextTok_spec s a hlt t hn
          refine ih (a + t.text.size) (l ++ [t]) e3 (by omega) ⟨fun u hu => ?_, fun j hj hc => ?_⟩ h0
          · rcases List.mem_append.1 hu with hu | hu
            · exact ⟨by have := (hp.fit u hu).1; omega, (hp.fit u hu).2⟩
            · obtain rfl : u = t := by simpa using hu
              refine ⟨by omega, fun i hi => ?_⟩
              rw [e1, e4]
              exact bt_ext2 s a _ i e3 (by omega)
          · rw [cov_snoc, Bool.or_eq_false_iff] at hc
            refine hp.spc j ?_ hc.1
            have h2 := hc.2
            rw [e1] at h2
            simp at h2
            omega
    · rw [if_neg hlt] at h0 ⊢
      obtain rfl : a = s.size := by omega
      exact hp
theorem scan_plcd (s : ByteArray) (h : (scan s).2.2 = 0) : Plcd s (scan s).1 s.size := by
  unfold scan at h ⊢
  by_cases h4 : 400 < s.size
  · rw [if_pos h4] at h; cases h
  · rw [if_neg h4] at h ⊢
    exact scanN_plcd s s.size 0 [] (by omega) (by omega) ⟨fun t ht => absurd ht (by simp), fun j hj => by omega⟩ h
end
/- LexerJoins, pure: the tokens joined with spaces are the same tokens again. -/
section
open Go.RowKit

structure GoodTok (t : Tok) : Prop where
  pos : 1 ≤ t.text.size
  is : (t.kind = kindN t.text ∧ t.kind ≠ 0 ∧ ∀ i, i < t.text.size → isWd (bt t.text i) = true) ∨ (t.kind = 3 ∧ t.text ∈ symL)
theorem wrun_all (s : ByteArray) : ∀ (d a : Nat), d = s.size - a → ∀ i, i < wrun s a → isWd (bt s (a + i)) = true := by
  intro d
  induction d with
  | zero => intro a hd i hi; rw [wrun_stop s a (fun h => by have := h.1; omega)] at hi; omega
  | succ d ih =>
    intro a hd i hi
    by_cases h : a < s.size ∧ isWd (bt s a) = true
    · rw [wrun_step s a h.1 h.2] at hi
      cases i with
      | zero => exact h.2
      | succ i => have := ih (a + 1) (by omega) i (by omega); rwa [show a + 1 + i = a + (i + 1) by omega] at this
    · rw [wrun_stop s a h] at hi; omega
theorem nextTok_good (s : ByteArray) (a : Nat) (ha : a < s.size) (t : Tok) (h : nextTok s a = some t) : GoodTok t := by
  have hs := nextTok_spec s a ha t h
  refine ⟨hs.2.1, ?_⟩
  unfold nextTok at h
  split at h
  · rename_i hw
    split at h
    · rename_i hk
      injection h with h
      subst h
      refine .inl ⟨rfl, hk, fun i hi => ?_⟩
      have h1 := wrun_le s a (by omega)
      have h2 : i < (s.extract a (a + wrun s a)).size := hi
      rw [ext_size s a _ h1] at h2
      show isWd (bt (s.extract a (a + wrun s a)) i) = true
      rw [bt_ext2 s a _ i h1 (by omega)]
      exact wrun_all s _ a rfl i (by omega)
    · cases h
  · cases hy : symAt s a with
    | none => rw [hy] at h; cases h
    | some x =>
      rw [hy] at h
      injection h with h
      subst h
      unfold symAt at hy
      exact .inr ⟨rfl, List.mem_of_find?_eq_some hy⟩
theorem scanN_good (s : ByteArray) : ∀ (f a : Nat) (l : List Tok), a ≤ s.size → (∀ t ∈ l, GoodTok t) → ∀ t ∈ (scanN s f a l).1, GoodTok t := by
  intro f
  induction f with
  | zero => intro a l _ h; exact h
  | succ f ih =>
    intro a l ha h
    rw [scanN]
    by_cases hlt : a < s.size
    · rw [if_pos hlt]
      by_cases hsp : bt s a = 32
      · rw [if_pos hsp]; exact ih _ _ (by omega) h
      · rw [if_neg hsp]
        cases hn : nextTok s a with
        | none => intro t ht; cases ht
        | some t =>
          refine ih _ _ (nextTok_spec s a hlt t hn).2.2.1 (fun u hu => ?_)
          rcases List.mem_append.1 hu with hu | hu
          · exact h u hu
          · obtain rfl : u = t := by simpa using hu
            exact nextTok_good s a hlt u hn
    · rw [if_neg hlt]; exact h
theorem scan_good (s : ByteArray) : ∀ t ∈ (scan s).1, GoodTok t := by
  unfold scan
  split
  · intro t ht; cases ht
  · exact scanN_good s _ _ _ (by omega) (fun t ht => by cases ht)
/-- the bytes of a text -/
def bl (s : ByteArray) : List UInt8 := s.data.toList
theorem bl_len (s : ByteArray) : (bl s).length = s.size := by unfold bl; rw [Array.length_toList]; rfl
end
end Go.Proofs.YtodmkmoglchoeaaGreatDoor
