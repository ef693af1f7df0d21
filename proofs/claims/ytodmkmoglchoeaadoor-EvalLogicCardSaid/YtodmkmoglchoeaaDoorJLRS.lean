/- Contracts, joined: LRef, LRScan. -/
import Derived.Test.YtodmkmoglchoeaaDoorJLScan
import Derived.Test.YtodmkmoglchoeaaDoorJRead
namespace Go.Proofs.YtodmkmoglchoeaaDoor
/- matchguardref06: part, word, symbol. -/
section
open Go.RowKit

def symsA : Array Value := #[.string ⟨#[38, 38]⟩, .string ⟨#[124, 124]⟩, .string ⟨#[45, 62]⟩, .string ⟨#[61, 61]⟩, .string ⟨#[33, 61]⟩, .string ⟨#[60, 61]⟩, .string ⟨#[62, 61]⟩, .string ⟨#[58, 58]⟩, .string ⟨#[40]⟩, .string ⟨#[41]⟩, .string ⟨#[33]⟩, .string ⟨#[60]⟩, .string ⟨#[62]⟩, .string ⟨#[43]⟩, .string ⟨#[45]⟩]
theorem symsA_lit : symsA = #[.string ⟨#[38, 38]⟩, .string ⟨#[124, 124]⟩, .string ⟨#[45, 62]⟩, .string ⟨#[61, 61]⟩, .string ⟨#[33, 61]⟩, .string ⟨#[60, 61]⟩, .string ⟨#[62, 61]⟩, .string ⟨#[58, 58]⟩, .string ⟨#[40]⟩, .string ⟨#[41]⟩, .string ⟨#[33]⟩, .string ⟨#[60]⟩, .string ⟨#[62]⟩, .string ⟨#[43]⟩, .string ⟨#[45]⟩] := rfl
theorem symsA_at : ∀ i, i < 15 → symsA[i]? = some (.string (symK i)) := by
  intro i hi
  have h : i = 0 ∨ i = 1 ∨ i = 2 ∨ i = 3 ∨ i = 4 ∨ i = 5 ∨ i = 6 ∨ i = 7 ∨ i = 8 ∨ i = 9 ∨ i = 10 ∨ i = 11 ∨ i = 12 ∨ i = 13 ∨ i = 14 := by omega
  rcases h with rfl | rfl | rfl | rfl | rfl | rfl | rfl | rfl | rfl | rfl | rfl | rfl | rfl | rfl | rfl <;> rfl
/-- how long the symbol is with which a text begins -/
def symLen (t : ByteArray) : Nat := match symL.find? (fun x => hpB t x) with
  | some x => x.size
  | none => 0
end
/- matchguardref06: Scan. -/
section
open Go.RowKit

theorem bt_ext2 (s : ByteArray) (a b i : Nat) (hb : b ≤ s.size) (h : a + i < b) : bt (s.extract a b) i = bt s (a + i) := by
  have hs : a + i < s.size := by omega
  have e : (s.extract a b).data.toList[i]? = some (s[a + i]'hs) := by
    rw [ByteArray.data_extract, Array.toList_extract, List.extract_eq_take_drop, List.getElem?_take_of_lt (by omega), List.getElem?_drop, pr_get s (a + i) hs]
  rw [bt_of _ _ _ e, bt_at]
theorem ext_size (s : ByteArray) (a b : Nat) (hb : b ≤ s.size) : (s.extract a b).size = b - a := by rw [ByteArray.size_extract]; omega
theorem wrun_ext (s : ByteArray) (a : Nat) (ha : a ≤ s.size) : ∀ d k, d = s.size - (a + k) → a + k ≤ s.size → wrun (s.extract a s.size) k = wrun s (a + k) := by
  intro d
  induction d with
  | zero =>
    intro k hd hk
    rw [wrun_stop s (a + k) (fun h => by omega), wrun_stop _ k (fun h => by have := h.1; rw [ext_size s a s.size (Nat.le_refl _)] at this; omega)]
  | succ d ih =>
    intro k hd hk
    have hz := ext_size s a s.size (Nat.le_refl _)
    have hbt := bt_ext2 s a s.size k (Nat.le_refl _) (by omega)
    by_cases h : isWd (bt s (a + k)) = true
    · rw [wrun_step s (a + k) (by omega) h, wrun_step _ k (by omega) (by rw [hbt]; exact h), ih (k + 1) (by omega) (by omega)]
      rfl
    · rw [wrun_stop s (a + k) (fun h2 => h h2.2), wrun_stop _ k (fun h2 => h (by rw [← hbt]; exact h2.2))]
theorem wrun_ext0 (s : ByteArray) (a : Nat) (ha : a ≤ s.size) : wrun (s.extract a s.size) 0 = wrun s a := by
  have h := wrun_ext s a ha _ 0 rfl (by omega)
  exact h
theorem hp_ext (s x : ByteArray) (a : Nat) (ha : a ≤ s.size) (h : hpB (s.extract a s.size) x = true) : a + x.size ≤ s.size ∧ s.extract a (a + x.size) = x := by
  unfold hpB at h
  rw [Bool.and_eq_true, decide_eq_true_iff, beq_iff_eq, ByteArray.toList_eq, ByteArray.toList_eq, ext_size s a s.size (Nat.le_refl _)] at h
  have hle : a + x.size ≤ s.size := by omega
  refine ⟨hle, ?_⟩
  apply ByteArray.ext
  apply Array.ext'
  rw [← h.2]
  simp only [ByteArray.data_extract, Array.toList_extract, List.extract_eq_take_drop]
  rw [List.drop_zero, List.take_take]
  congr 1
  have := x.size
  omega
theorem lit_under (x : ByteArray) (h0 : 0 < x.size) (h : bt x 0 = 95) : litV x = none := by
  have hp : ¬ hpB x x0 = true := fun hb => by
    have := hp_head x x0 (by decide) hb
    rw [h] at this
    revert this; decide
  unfold litV litS litB
  rw [if_neg hp, if_neg hp, if_pos h0]
  exact pv_none (k := 1) (by rw [pv, pv, Option.bind_some, if_neg (by rw [h]; intro h2; have := h2.1; revert this; decide)]) (by omega)
theorem own_blk_lt {w : World} {B e sz n k : Nat} {v : Value} {l : List Value} (h : w.ownsRow B e sz v n l) (hk : v.ownBlock = some k) : k < w.heap.size := by
  rcases h.2 with ⟨rfl, _⟩ | ⟨g, cap, cur, rfl, hb, hh, _⟩
  · simp [Value.ownBlock] at hk
  · have e : g = k := by simpa [Value.ownBlock] using hk
    subst e
    exact (Array.getElem?_eq_some_iff.1 hh).1
theorem sym_pos : ∀ x ∈ symL, 1 ≤ x.size := by decide
/-- the token in its box -/
structure TB (w : World) (b : Nat) (v0 v1 v2 : Value) : Prop where
  lt : b < w.heap.size
  c0 : w.cell? ⟨b, 0, none⟩ = some v0
  c1 : w.cell? ⟨b, 1, none⟩ = some v1
  c2 : w.cell? ⟨b, 2, none⟩ = some v2
  f : ∀ i, i < 3 → w.frozen? ⟨b, i, none⟩ = false
theorem TB.call {w w' : World} {b : Nat} {v0 v1 v2 : Value} (h : TB w b v0 v1 v2) (hb : Below w.heap.size w w') : TB w' b v0 v1 v2 :=
  ⟨Nat.lt_of_lt_of_le h.lt hb.size, by rw [hb.cell (p := ⟨b, 0, none⟩) h.lt]; exact h.c0, by rw [hb.cell (p := ⟨b, 1, none⟩) h.lt]; exact h.c1, by rw [hb.cell (p := ⟨b, 2, none⟩) h.lt]; exact h.c2, fun i hi => by rw [hb.frozen (p := ⟨b, i, none⟩) h.lt]; exact h.f i hi⟩
theorem TB.new (w : World) (v0 v1 v2 : Value) (t : TypeId) : TB (w.alloc (.cells #[v0, v1, v2] t)) w.heap.size v0 v1 v2 :=
  ⟨by simp, by simp [go_sem], by simp [go_sem], by simp [go_sem], fun i _ => by simp [go_sem]⟩
theorem TB.set0 {w : World} {b : Nat} {v0 v1 v2 : Value} (h : TB w b v0 v1 v2) (v : Value) : TB (w.setCell ⟨b, 0, none⟩ v) b v v1 v2 :=
  ⟨by rw [World.size_setCell]; exact h.lt, World.cell?_setCell_same _ _ _ h.c0, by rw [set_other _ _ _ _ _ (by decide)]; exact h.c1, by rw [set_other _ _ _ _ _ (by decide)]; exact h.c2, fun i hi => by rw [set_froz]; exact h.f i hi⟩
theorem TB.set1 {w : World} {b : Nat} {v0 v1 v2 : Value} (h : TB w b v0 v1 v2) (v : Value) : TB (w.setCell ⟨b, 1, none⟩ v) b v0 v v2 :=
  ⟨by rw [World.size_setCell]; exact h.lt, by rw [set_other _ _ _ _ _ (by decide)]; exact h.c0, World.cell?_setCell_same _ _ _ h.c1, by rw [set_other _ _ _ _ _ (by decide)]; exact h.c2, fun i hi => by rw [set_froz]; exact h.f i hi⟩

end
end Go.Proofs.YtodmkmoglchoeaaDoor
