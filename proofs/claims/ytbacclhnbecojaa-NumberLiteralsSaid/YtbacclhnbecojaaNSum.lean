/- The law's own sum of values with signs, by the program and by the reference. -/
import Derived.Test.YtbacclhnbecojaaNInv
import Derived.Deep.CutRange
import Derived.Deep.DeepCutAuto
namespace Go.Proofs.Ytbacclhnbecojaa
open Go.RowKit

/-- The slice holds the values f. -/
def ValsB (w : World) (A : Option Addr) (n : Nat) (f : Nat → Nat) : Prop := n = 0 ∨ ∃ b o, A = some ⟨b, o, none⟩ ∧ b < w.heap.size ∧ ∀ i, i < n → w.cell? ⟨b, o + i * 2, none⟩ = some (.int .u64 (hi (f i))) ∧ w.cell? ⟨b, o + i * 2 + 1, none⟩ = some (.int .u64 (lo (f i)))
/-- The slice holds the truth values g. -/
def BoolsB (w : World) (A : Option Addr) (n : Nat) (g : Nat → Bool) : Prop := n = 0 ∨ ∃ b o, A = some ⟨b, o, none⟩ ∧ b < w.heap.size ∧ ∀ i, i < n → w.cell? ⟨b, o + i, none⟩ = some (.bool (g i))
theorem ValsB.below {w w' : World} {A : Option Addr} {n : Nat} {f : Nat → Nat} (h : ValsB w A n f) (hb : Below w.heap.size w w') : ValsB w' A n f := by
  rcases h with h | ⟨b, o, h1, h2, h3⟩
  · exact .inl h
  · exact .inr ⟨b, o, h1, Nat.lt_of_lt_of_le h2 hb.size, fun i hi => ⟨by rw [hb.cell (p := ⟨b, _, none⟩) h2]; exact (h3 i hi).1, by rw [hb.cell (p := ⟨b, _, none⟩) h2]; exact (h3 i hi).2⟩⟩
theorem BoolsB.below {w w' : World} {A : Option Addr} {n : Nat} {g : Nat → Bool} (h : BoolsB w A n g) (hb : Below w.heap.size w w') : BoolsB w' A n g := by
  rcases h with h | ⟨b, o, h1, h2, h3⟩
  · exact .inl h
  · exact .inr ⟨b, o, h1, Nat.lt_of_lt_of_le h2 hb.size, fun i hi => by rw [hb.cell (p := ⟨b, _, none⟩) h2]; exact h3 i hi⟩
/-- the sum of the first k values, with signs -/
def sm (f : Nat → Nat) (g : Nat → Bool) (m : Nat) : Nat → Int
  | 0 => 0
  | k + 1 => if k < m ∧ g k = true then sm f g m k - (f k : Int) else sm f g m k + (f k : Int)
theorem sm_b (f : Nat → Nat) (g : Nat → Bool) (m : Nat) (hf : ∀ i, f i < 2 ^ 128) (k : Nat) : -((k : Int) * 2 ^ 128) ≤ sm f g m k ∧ sm f g m k ≤ (k : Int) * 2 ^ 128 := by
  induction k with
  | zero => simp [sm]
  | succ k ih =>
    have := hf k
    unfold sm
    have e : ((k + 1 : Nat) : Int) * 2 ^ 128 = (k : Int) * 2 ^ 128 + 2 ^ 128 := by omega
    rw [e]
    split <;> omega
/-- sum's end -/
def RetSum (z : Int) (w : World) (e : Ending) (w' : World) : Prop := ∃ s A n c, e = .returned (.tuple #[.agg #[.int .u32 (wd z 0), .int .u32 (wd z 1), .int .u32 (wd z 2), .int .u32 (wd z 3), .int .u32 (wd z 4), .int .u32 (wd z 5)], .agg #[.bool s, .slice A n c]]) ∧ IntS w' s A n c z ∧ Below w.heap.size w w'
/-- sum's state -/
structure SmAt (w : World) (P R : Nat) (z : Int) (w' : World) : Prop where
  below : Below w.heap.size w w'
  np : w.heap.size + 2 ≤ P
  pr : P < R
  r6 : RowAt w' w.heap.size 6 fun _ => .int .u32 0
  res : ResAt w w' (w.heap.size + 1)
  num : RowAt w' P 6 (wV z)
  box : ∃ s A n c, BoxI w' R s A n c z
/-- what a region of sum needs of memory: the number of zn, the Int of zi, the value x -/
structure SmB (w : World) (P V x : Nat) (zn : Int) (s : Bool) (A : Option Addr) (n c : Nat) (zi : Int) (w' : World) : Prop where
  below : Below w.heap.size w w'
  np : w.heap.size + 2 ≤ P
  pv : P + 1 < V
  lt : V < w'.heap.size
  r6 : RowAt w' w.heap.size 6 fun _ => .int .u32 0
  res : ResAt w w' (w.heap.size + 1)
  num : RowAt w' P 6 (wV zn)
  box : BoxI w' (P + 1) s A n c zi
  v0 : w'.cell? ⟨V, 0, none⟩ = some (.int .u64 (hi x))
  v1 : w'.cell? ⟨V, 1, none⟩ = some (.int .u64 (lo x))
theorem SmB.call {w w1 w2 : World} {P V x : Nat} {zn zi : Int} {s : Bool} {A : Option Addr} {n c : Nat} (h : SmB w P V x zn s A n c zi w1) (hb : Below w1.heap.size w1 w2) : SmB w P V x zn s A n c zi w2 := by
  have hl := h.lt
  have hp := h.np
  have hv := h.pv
  exact ⟨h.below.trans (hb.mono h.below.size), h.np, h.pv, Nat.lt_of_lt_of_le h.lt hb.size, h.r6.below hb (by omega), h.res.call hb, h.num.below hb (by omega), h.box.call hb, by rw [hb.cell (p := ⟨V, 0, none⟩) h.lt]; exact h.v0, by rw [hb.cell (p := ⟨V, 1, none⟩) h.lt]; exact h.v1⟩
theorem DigA.store6 {w : World} {A : Option Addr} {D : List Nat} (h : DigA w A D) {b : Nat} {z : Int} (hr : RowAt w b 6 (wV z)) (v0 v1 v2 v3 v4 v5 : Value) : DigA ((((((w.setCell ⟨b, 0, none⟩ v0).setCell ⟨b, 1, none⟩ v1).setCell ⟨b, 2, none⟩ v2).setCell ⟨b, 3, none⟩ v3).setCell ⟨b, 4, none⟩ v4).setCell ⟨b, 5, none⟩ v5) A D := by
  by_cases h0 : D = []
  · exact .inl h0
  · have hp : 0 < D.length := by cases D with
      | nil => exact absurd rfl h0
      | cons _ _ => simp
    obtain ⟨g, hg, _, hc⟩ := h.at 0 hp
    have hne : ∀ ad, A = some ad → ad.block ≠ b := fun ad e e2 => by
      rw [hg] at e; injection e with e; subst e; simp only at e2; subst e2
      rw [hr.cell 0 (by decide)] at hc; injection hc with hc; injection hc with hc; cases hc
    exact (((((h.set hne 0 _).set hne 1 _).set hne 2 _).set hne 3 _).set hne 4 _).set hne 5 _
theorem IntS.store6 {w : World} {s : Bool} {A : Option Addr} {n c : Nat} {zi : Int} (h : IntS w s A n c zi) {b : Nat} {z : Int} (hr : RowAt w b 6 (wV z)) (v0 v1 v2 v3 v4 v5 : Value) : IntS ((((((w.setCell ⟨b, 0, none⟩ v0).setCell ⟨b, 1, none⟩ v1).setCell ⟨b, 2, none⟩ v2).setCell ⟨b, 3, none⟩ v3).setCell ⟨b, 4, none⟩ v4).setCell ⟨b, 5, none⟩ v5) s A n c zi :=
  ⟨h.1, h.2.1, h.2.2.1, h.2.2.2.1, h.2.2.2.2.store6 hr _ _ _ _ _ _⟩
/-- what each of the eight slots holds, once its operation has come up -/
def SmF (x : Nat) (z z' : Int) (s : Bool) (A : Option Addr) (n c : Nat) (i : Nat) (w : World) (u : Value) : Prop :=
  match i with
  | 0 => u = .agg #[.int .u32 (wd z 0), .int .u32 (wd z 1), .int .u32 (wd z 2), .int .u32 (wd z 3), .int .u32 (wd z 4), .int .u32 (wd z 5)]
  | 1 => u = .agg #[.int .u64 (hi x), .int .u64 (lo x)]
  | 2 => u = .agg #[.int .u32 (wd x 0), .int .u32 (wd x 1), .int .u32 (wd x 2), .int .u32 (wd x 3), .int .u32 (wd x 4), .int .u32 (wd x 5)]
  | 3 => u = .agg #[.int .u32 (wd z' 0), .int .u32 (wd z' 1), .int .u32 (wd z' 2), .int .u32 (wd z' 3), .int .u32 (wd z' 4), .int .u32 (wd z' 5)]
  | 4 => u = .agg #[.bool s, .slice A n c]
  | 5 => u = .agg #[.int .u64 (hi x), .int .u64 (lo x)]
  | 6 => ∃ s' A' n' c', u = .agg #[.bool s', .slice A' n' c'] ∧ IntS w s' A' n' c' x
  | 7 => ∃ s' A' n' c', u = .agg #[.bool s', .slice A' n' c'] ∧ IntS w s' A' n' c' z'
  | _ => True
theorem SmF.kept {x : Nat} {z z' : Int} {s : Bool} {A : Option Addr} {n c i : Nat} {w w' : World} {u : Value} (h : SmF x z z' s A n c i w u) (hb : Below w.heap.size w w') : SmF x z z' s A n c i w' u := by
  unfold SmF at h ⊢
  split at h
  · exact h
  · exact h
  · exact h
  · exact h
  · exact h
  · exact h
  · obtain ⟨s', A', n', c', h1, h2⟩ := h; exact ⟨s', A', n', c', h1, h2.below hb⟩
  · obtain ⟨s', A', n', c', h1, h2⟩ := h; exact ⟨s', A', n', c', h1, h2.below hb⟩
  · trivial
/-- the invariant of a region of sum -/
structure SmJ (w : World) (P V x : Nat) (z z' : Int) (s : Bool) (A : Option Addr) (n c : Nat) (listed : Array Bool) (w' : World) (v : Nat → Value) : Prop where
  size : listed.size = 10
  l9 : listed.getD 9 false = true → listed.getD 8 false = true
  l8 : listed.getD 8 false = true → ∀ j, j < 8 → listed.getD j false = true
  l7 : listed.getD 7 false = true → listed.getD 4 false = true ∧ listed.getD 6 false = true
  l6 : listed.getD 6 false = true → listed.getD 5 false = true
  first : listed.getD 8 false = false → SmB w P V x z s A n c z w' ∧ ∀ i, i < 8 → listed.getD i false = true → SmF x z z' s A n c i w' (v i)
  mid : listed.getD 8 false = true → listed.getD 9 false = false → SmB w P V x z' s A n c z w' ∧ SmF x z z' s A n c 7 w' (v 7)
  last : listed.getD 9 false = true → SmAt w P (P + 1) z' w'
theorem SmJ.not8 {w : World} {P V x : Nat} {z z' : Int} {s : Bool} {A : Option Addr} {n c : Nat} {listed : Array Bool} {w' : World} {v : Nat → Value} (h : SmJ w P V x z z' s A n c listed w' v) {i : Nat} (hi : i < 8) (hl : listed.getD i true = false) : listed.getD 8 false = false := by
  cases e : listed.getD 8 false with
  | false => rfl
  | true =>
    have := h.l8 e i hi
    rw [Array.getD_eq_getD_getElem?] at this hl
    rw [Array.getElem?_eq_getElem (by have := h.size; omega)] at this hl
    simp at this hl
    rw [this] at hl; cases hl
theorem SmJ.step {w : World} {P V x : Nat} {z z' : Int} {s : Bool} {A : Option Addr} {n c : Nat} {listed : Array Bool} {w' w'' : World} {v : Nat → Value} (h : SmJ w P V x z z' s A n c listed w' v) {i : Nat} (hi : i < 8) (hl : listed.getD i true = false) (hb : Below w'.heap.size w' w'') {u : Value} (hu : SmF x z z' s A n c i w'' u) (h7 : i = 7 → listed.getD 4 false = true ∧ listed.getD 6 false = true) (h6 : i = 6 → listed.getD 5 false = true) :
    SmJ w P V x z z' s A n c (listed.setIfInBounds i true) w'' (updv v i u) := by
  have h8 := h.not8 hi hl
  have hs := h.size
  have h9 : listed.getD 9 false = false := by
    cases e : listed.getD 9 false with
    | false => rfl
    | true => rw [h.l9 e] at h8; cases h8
  have g : ∀ j, (listed.setIfInBounds i true).getD j false = if i = j then true else listed.getD j false := fun j => getD_setN (by omega)
  obtain ⟨hB, hF⟩ := h.first h8
  refine ⟨by simpa using hs, ?_, ?_, ?_, ?_, ?_, ?_, ?_⟩
  · rw [g, if_neg (by omega), h9]; intro e; cases e
  · rw [g, if_neg (by omega), h8]; intro e; cases e
  · rw [g, g, g]
    intro e
    have e2 : listed.getD 4 false = true ∧ listed.getD 6 false = true := by
      by_cases hi7 : i = 7
      · exact h7 hi7
      · rw [if_neg hi7] at e; exact h.l7 e
    rw [e2.1, e2.2]; simp
  · rw [g, g]
    intro e
    have e2 : listed.getD 5 false = true := by
      by_cases hi6 : i = 6
      · exact h6 hi6
      · rw [if_neg hi6] at e; exact h.l6 e
    rw [e2]; simp
  · intro _
    refine ⟨hB.call hb, fun j hj hlj => ?_⟩
    unfold updv
    by_cases e : j = i
    · subst e; rw [if_pos rfl]; exact hu
    · rw [if_neg e]
      rw [g, if_neg (fun e2 => e e2.symm)] at hlj
      exact (hF j hj hlj).kept hb
  · rw [g, if_neg (by omega), h8]; intro e; cases e
  · rw [g, if_neg (by omega), h9]; intro e; cases e
theorem bd_next {f : Nat → Nat} {g : Nat → Bool} {m k : Nat} (hf : ∀ i, f i < 2 ^ 128) (hk : k < 20) (sub : Bool) : Bd (if sub = true then sm f g m k - (f k : Int) else sm f g m k + (f k : Int)) := by
  have h := sm_b f g m hf k
  have h2 := hf k
  have h3 : ((k : Int) * 2 ^ 128) ≤ 20 * 2 ^ 128 := by omega
  have e : ∀ z : Int, -(21 * 2 ^ 128) ≤ z → z ≤ 21 * 2 ^ 128 → Bd z := fun z h1 h2 => by
    unfold Bd
    have : z.natAbs < 2 ^ 140 := by omega
    exact Nat.lt_trans this (by decide +kernel)
  split
  · exact e _ (by omega) (by omega)
  · exact e _ (by omega) (by omega)
theorem SmJ.begun {w wr : World} {P : Nat} {z : Int} (h : SmAt w P (P + 1) z wr) (x : Nat) (z' : Int) {s : Bool} {A : Option Addr} {n c : Nat} (hb : BoxI wr (P + 1) s A n c z) {v : Nat → Value} : SmJ w P wr.heap.size x z z' s A n c (Array.replicate 10 false) (wr.alloc (.cells #[.int .u64 (hi x), .int .u64 (lo x)] 48)).drew v := by
  have al : Below wr.heap.size wr (wr.alloc (.cells #[.int .u64 (hi x), .int .u64 (lo x)] 48)) := (Below.refl _ _).alloc (Nat.le_refl _) _
  have hp := h.np
  have hl := hb.lt
  have g : ∀ j, j < 10 → (Array.replicate 10 false).getD j false = false := fun j hj => by
    rw [Array.getD_eq_getD_getElem?, Array.getElem?_replicate]; split <;> rfl
  refine ⟨by simp, ?_, ?_, ?_, ?_, ?_, ?_, ?_⟩
  · rw [g 9 (by decide)]; intro e; cases e
  · rw [g 8 (by decide)]; intro e; cases e
  · rw [g 7 (by decide)]; intro e; cases e
  · rw [g 6 (by decide)]; intro e; cases e
  · intro _
    refine ⟨⟨(h.below.alloc h.below.size _).drew, hp, by omega, by simp, (h.r6.past (by omega) _).drew, (h.res.call al).drew, (h.num.past (by omega) _).drew, (hb.call al).drew, by simp [go_sem], by simp [go_sem]⟩, fun i hi e => ?_⟩
    rw [g i (by omega)] at e; cases e
  · rw [g 8 (by decide)]; intro e; cases e
  · rw [g 9 (by decide)]; intro e; cases e
theorem cell_far6 {w : World} {b c : Nat} (hne : b ≠ c) (o : Nat) (v0 v1 v2 v3 v4 v5 : Value) : ((((((w.setCell ⟨b, 0, none⟩ v0).setCell ⟨b, 1, none⟩ v1).setCell ⟨b, 2, none⟩ v2).setCell ⟨b, 3, none⟩ v3).setCell ⟨b, 4, none⟩ v4).setCell ⟨b, 5, none⟩ v5).cell? ⟨c, o, none⟩ = w.cell? ⟨c, o, none⟩ := by
  rw [World.cell?_setCell_far _ _ _ _ hne, World.cell?_setCell_far _ _ _ _ hne, World.cell?_setCell_far _ _ _ _ hne, World.cell?_setCell_far _ _ _ _ hne, World.cell?_setCell_far _ _ _ _ hne, World.cell?_setCell_far _ _ _ _ hne]
theorem froz6 {w : World} {b c : Nat} (o : Nat) (v0 v1 v2 v3 v4 v5 : Value) : ((((((w.setCell ⟨b, 0, none⟩ v0).setCell ⟨b, 1, none⟩ v1).setCell ⟨b, 2, none⟩ v2).setCell ⟨b, 3, none⟩ v3).setCell ⟨b, 4, none⟩ v4).setCell ⟨b, 5, none⟩ v5).frozen? ⟨c, o, none⟩ = w.frozen? ⟨c, o, none⟩ := by
  rw [World.frozen?_setCell, World.frozen?_setCell, World.frozen?_setCell, World.frozen?_setCell, World.frozen?_setCell, World.frozen?_setCell]
theorem size6 {w : World} {b : Nat} (v0 v1 v2 v3 v4 v5 : Value) : ((((((w.setCell ⟨b, 0, none⟩ v0).setCell ⟨b, 1, none⟩ v1).setCell ⟨b, 2, none⟩ v2).setCell ⟨b, 3, none⟩ v3).setCell ⟨b, 4, none⟩ v4).setCell ⟨b, 5, none⟩ v5).heap.size = w.heap.size := by
  rw [World.size_setCell, World.size_setCell, World.size_setCell, World.size_setCell, World.size_setCell, World.size_setCell]
theorem SmB.setNum {w w1 : World} {P V x : Nat} {zn zi : Int} {s : Bool} {A : Option Addr} {n c : Nat} (h : SmB w P V x zn s A n c zi w1) (z' : Int) : SmB w P V x z' s A n c zi ((((((w1.setCell ⟨P, 0, none⟩ (.int .u32 (wd z' 0))).setCell ⟨P, 1, none⟩ (.int .u32 (wd z' 1))).setCell ⟨P, 2, none⟩ (.int .u32 (wd z' 2))).setCell ⟨P, 3, none⟩ (.int .u32 (wd z' 3))).setCell ⟨P, 4, none⟩ (.int .u32 (wd z' 4))).setCell ⟨P, 5, none⟩ (.int .u32 (wd z' 5))) := by
  have hl := h.lt
  have hp := h.np
  have hv := h.pv
  exact ⟨store6 h.below (by omega) _ _ _ _ _ _, hp, hv, by rw [size6]; exact hl, far6 h.r6 (by omega) _ _ _ _ _ _,
    ⟨store6 h.res.below (by omega) _ _ _ _ _ _, h.res.nb, by rw [size6]; exact h.res.lt, by rw [cell_far6 (by omega)]; exact h.res.c0, by rw [cell_far6 (by omega)]; exact h.res.c1, by rw [froz6]; exact h.res.f0, by rw [froz6]; exact h.res.f1⟩,
    row6 h.num, ⟨by rw [cell_far6 (by omega)]; exact h.box.c0, by rw [cell_far6 (by omega)]; exact h.box.c1, by rw [froz6]; exact h.box.f0, by rw [froz6]; exact h.box.f1, h.box.v.store6 h.num _ _ _ _ _ _⟩,
    by rw [cell_far6 (by omega)]; exact h.v0, by rw [cell_far6 (by omega)]; exact h.v1⟩
theorem SmB.setBox {w w1 : World} {P V x : Nat} {zn zi : Int} {s : Bool} {A : Option Addr} {n c : Nat} (h : SmB w P V x zn s A n c zi w1) {s' : Bool} {A' : Option Addr} {n' c' : Nat} (hI : IntS w1 s' A' n' c' zn) : SmAt w P (P + 1) zn ((w1.setCell ⟨P + 1, 0, none⟩ (.bool s')).setCell ⟨P + 1, 1, none⟩ (.slice A' n' c')) := by
  have hp := h.np
  exact ⟨store2 h.below (by omega) _ _, hp, by omega, (h.r6.far _ (by simp; omega) _).far _ (by simp; omega) _, h.res.set (by omega) (by omega) _ _, (h.num.far _ (by simp) _).far _ (by simp) _, s', A', n', c', h.box.set hI⟩
theorem SmJ.next8 {w : World} {P V x : Nat} {z z' : Int} {s : Bool} {A : Option Addr} {n c : Nat} {listed : Array Bool} {w1 : World} {v : Nat → Value} (h : SmJ w P V x z z' s A n c listed w1 v) (hl : listed.getD 8 true = false) (l0 : listed.getD 0 false = true) (l1 : listed.getD 1 false = true) (l2 : listed.getD 2 false = true) (l3 : listed.getD 3 false = true) (l7 : listed.getD 7 false = true) :
    SmJ w P V x z z' s A n c (listed.setIfInBounds 8 true) ((((((w1.setCell ⟨P, 0, none⟩ (.int .u32 (wd z' 0))).setCell ⟨P, 1, none⟩ (.int .u32 (wd z' 1))).setCell ⟨P, 2, none⟩ (.int .u32 (wd z' 2))).setCell ⟨P, 3, none⟩ (.int .u32 (wd z' 3))).setCell ⟨P, 4, none⟩ (.int .u32 (wd z' 4))).setCell ⟨P, 5, none⟩ (.int .u32 (wd z' 5))) v := by
  have hs := h.size
  have h8 : listed.getD 8 false = false := by
    rw [Array.getD_eq_getD_getElem?, Array.getElem?_eq_getElem (by omega)] at hl ⊢; exact hl
  have h9 : listed.getD 9 false = false := by
    cases e : listed.getD 9 false with
    | false => rfl
    | true => rw [h.l9 e] at h8; cases h8
  have g : ∀ j, (listed.setIfInBounds 8 true).getD j false = if 8 = j then true else listed.getD j false := fun j => getD_setN (by omega)
  obtain ⟨hB, hF⟩ := h.first h8
  obtain ⟨l4, l6⟩ := h.l7 l7
  have l5 := h.l6 l6
  refine ⟨by simpa using hs, ?_, ?_, ?_, ?_, ?_, ?_, ?_⟩
  · rw [g, if_neg (by omega), h9]; intro e; cases e
  · intro _ j hj
    rw [g, if_neg (by omega)]
    match j, hj with
    | 0, _ => exact l0 | 1, _ => exact l1 | 2, _ => exact l2 | 3, _ => exact l3 | 4, _ => exact l4 | 5, _ => exact l5 | 6, _ => exact l6 | 7, _ => exact l7
  · intro _; rw [g, g, if_neg (by omega), if_neg (by omega)]; exact ⟨l4, l6⟩
  · intro _; rw [g, if_neg (by omega)]; exact l5
  · rw [g, if_pos rfl]; intro e; cases e
  · intro _ _
    refine ⟨hB.setNum z', ?_⟩
    obtain ⟨s', A', n', c', e1, e2⟩ := hF 7 (by decide) l7
    exact ⟨s', A', n', c', e1, e2.store6 hB.num _ _ _ _ _ _⟩
  · rw [g, if_neg (by omega), h9]; intro e; cases e
theorem SmJ.next9 {w : World} {P V x : Nat} {z z' : Int} {s : Bool} {A : Option Addr} {n c : Nat} {listed : Array Bool} {w1 : World} {v : Nat → Value} (h : SmJ w P V x z z' s A n c listed w1 v) (l8 : listed.getD 8 false = true) {s' : Bool} {A' : Option Addr} {n' c' : Nat} (hB : SmB w P V x z' s A n c z w1) (hI : IntS w1 s' A' n' c' z') :
    SmJ w P V x z z' s A n c (listed.setIfInBounds 9 true) ((w1.setCell ⟨P + 1, 0, none⟩ (.bool s')).setCell ⟨P + 1, 1, none⟩ (.slice A' n' c')) v := by
  have hs := h.size
  have g : ∀ j, (listed.setIfInBounds 9 true).getD j false = if 9 = j then true else listed.getD j false := fun j => getD_setN (by omega)
  refine ⟨by simpa using hs, ?_, ?_, ?_, ?_, ?_, ?_, ?_⟩
  · intro _; rw [g, if_neg (by omega)]; exact l8
  · intro _ j hj; rw [g, if_neg (by omega)]; exact h.l8 l8 j hj
  · intro _; rw [g, g, if_neg (by omega), if_neg (by omega)]; exact ⟨h.l8 l8 4 (by decide), h.l8 l8 6 (by decide)⟩
  · intro _; rw [g, if_neg (by omega)]; exact h.l8 l8 5 (by decide)
  · rw [g, if_neg (by omega), l8]; intro e; cases e
  · rw [g, g, if_pos rfl]; intro _ e; cases e
  · intro _; exact hB.setBox hI
set_option maxRecDepth 100000 in
set_option maxHeartbeats 4000000 in
theorem ns_sum (w : World) (A B : Option Addr) (n m c1 c2 : Nat) (f : Nat → Nat) (g : Nat → Bool) (hn : n ≤ 9223372036854775807) (hm : m ≤ 9223372036854775807) (hcn : n ≤ c1) (hf : ∀ i, f i < 2 ^ 128) (hA : ValsB w A n f) (hB : BoolsB w B m g) :
    Calls Try.prog 8 #[.slice A n c1, .slice B m c2] w (RetSum (sm f g m (min n 20)) w) := by
  have HA := Lib.hid hA
  have HB := Lib.hid hB
  have HF := Lib.hid hf
  obtain ⟨q, hq⟩ : ∃ q, min n 20 = q := ⟨_, rfl⟩
  have hq1 : q ≤ n := by omega
  have hq2 : q ≤ 20 := by omega
  have hmx : min (n : Int) 20 = (q : Int) := by omega
  rw [hq]
  clear hA hB hf hq
  go_enter Try.func8, Try.ntmps8
  go_wp2_with (first
    | (go_at_call 13; refine (nn_of 0 (by decide) (by decide) _).mono ?_; rintro e w1 ⟨rfl, hb1⟩)
    | (go_at_call 14; refine (ri_of0 _).mono ?_; rintro e w2 ⟨s, A0, n0, c0, rfl, hI, hb2⟩))
  have hstart : SmAt w w2.heap.size (w2.heap.size + 1) 0 ((w2.alloc (.cells #[.int .u32 (wd 0 0), .int .u32 (wd 0 1), .int .u32 (wd 0 2), .int .u32 (wd 0 3), .int .u32 (wd 0 4), .int .u32 (wd 0 5)] 27)).alloc (.cells #[.bool s, .slice A0 n0 c0] 30)) := by
    have al : ∀ (W : World) (o : Obj), Below W.heap.size W (W.alloc o) := fun W o => (Below.refl _ _).alloc (Nat.le_refl _) _
    have r0 := ResAt.new (w := w) (W := w.alloc (.cells (rowA 6 fun _ => .int .u32 0) 27)) ((Below.refl _ _).alloc (by simp) _) false none 0 0
    simp only [World.size_alloc] at r0
    have q0 := (RowAt.new w 6 (fun _ => .int .u32 0) 27).past (by simp) (.cells #[.bool false, .slice none 0 0] 30)
    have s1 : w.heap.size + 2 ≤ w1.heap.size := by have := hb1.size; simpa using this
    have s2 : w1.heap.size ≤ w2.heap.size := hb2.size
    have h1 := ((r0.call hb1).call hb2).call (al w2 (.cells #[.int .u32 (wd 0 0), .int .u32 (wd 0 1), .int .u32 (wd 0 2), .int .u32 (wd 0 3), .int .u32 (wd 0 4), .int .u32 (wd 0 5)] 27))
    have hn := (RowAt.new w2 6 (wV 0) 27)
    have hI2 := hI.alloc (.cells #[.int .u32 (wd 0 0), .int .u32 (wd 0 1), .int .u32 (wd 0 2), .int .u32 (wd 0 3), .int .u32 (wd 0 4), .int .u32 (wd 0 5)] 27)
    have hX := BoxI.new hI2
    simp only [World.size_alloc] at hX
    exact ⟨(h1.call (al _ _)).below, by omega, by omega, (((q0.below hb1 (by simp; omega)).below hb2 (by omega)).past (by omega) _).past (by simp; omega) _, h1.call (al _ _), hn.past (by simp) _, s, A0, n0, c0, hX⟩
  generalize ((w2.alloc (.cells #[.int .u32 (wd 0 0), .int .u32 (wd 0 1), .int .u32 (wd 0 2), .int .u32 (wd 0 3), .int .u32 (wd 0 4), .int .u32 (wd 0 5)] 27)).alloc (.cells #[.bool s, .slice A0 n0 c0] 30)) = W0 at hstart ⊢
  generalize w2.heap.size = P at hstart ⊢
  clear hI hb1 hb2
  go_loopw [18] (fun i w' => ∃ k : Nat, k ≤ q ∧ i = .int .i64 k ∧ SmAt w P (P + 1) (sm f g m k) w') (fun i _ => q - (intOf i).toNat)
  case atStart => exact ⟨0, by omega, rfl, hstart⟩
  case round =>
    obtain ⟨k, hk, rfl, hR⟩ := hrel
    have HR := Lib.hid hR
    clear hstart
    by_cases hlt : (k : Int) < (q : Int)
    · obtain ⟨b, o, hAe, hbw, hcs⟩ := (HA.out.below hR.below).resolve_left (by omega)
      obtain ⟨e0, e1⟩ := hcs k (by omega)
      subst hAe
      have hsz := hR.below.size
      clear hR hcs
      by_cases hkm : k < m
      · obtain ⟨b2, o2, hBe, hbw2, hcs2⟩ := (HB.out.below HR.out.below).resolve_left (by omega)
        have d0 := hcs2 k hkm
        subst hBe
        have hkm2 : (k : Int) < (m : Int) := by omega
        clear hcs2
        cases hg : g k
        · have HSM : Hid (sm f g m (k + 1) = sm f g m k + (f k : Int)) := Lib.hid (by show (if _ then _ else _) = _; rw [if_neg (by rw [hg]; intro h; cases h.2)])
          rw [hg] at d0
          clear hg hkm
          go_upto_region 7 with fail
          obtain ⟨s1, A1, n1, c3, hbx⟩ := HR.out.box
          have hbx2 := Lib.hid hbx
          clear hbx
          have HZ2 : Hid (Bd ((sm f g m k) + (f k : Int))) := Lib.hid (bd_next HF.out (k := k) (by omega) false)
          refine wp_region_slots (base := 41) (SmJ w P wr.heap.size (f k) (sm f g m k) ((sm f g m k) + (f k : Int)) s1 A1 n1 c3) (by kernel_rfl) ?_ ?_ ?_ ?_
          · simp [setv]
          · exact SmJ.begun HR.out (f k) _ hbx2.out
          · intro listed w1 v i hJ hrd
            obtain ⟨hlt2, hun⟩ := ready_subN hrd
            have hlt3 : i < 10 := hlt2
            clear hlt2
            have HJ := Lib.hid hJ
            match i, hlt3 with
            | 0, _ =>
              have h8 := hJ.not8 (by decide) hun
              obtain ⟨hB0, hF0⟩ := hJ.first h8
              obtain ⟨⟨a0, a1, a2, a3, a4, a5⟩, _⟩ := six_there hB0.num
              refine wpOp_step rfl (fun K' hK => ?_)
              simp only [setv, List.setIfInBounds_toArray, List.set_cons_succ, List.set_cons_zero]
              have HH := Lib.hid hK
              clear hK hJ hF0 hrd
              go_simp
              refine HH.out _ _ ⟨updv v 0 (.agg #[.int .u32 (wd (sm f g m k) 0), .int .u32 (wd (sm f g m k) 1), .int .u32 (wd (sm f g m k) 2), .int .u32 (wd (sm f g m k) 3), .int .u32 (wd (sm f g m k) 4), .int .u32 (wd (sm f g m k) 5)]), by simp [setv, updv], HJ.out.step (by decide) hun (Below.refl _ _) rfl (by omega) (by omega)⟩
            | 1, _ =>
              have h8 := hJ.not8 (by decide) hun
              obtain ⟨hB0, hF0⟩ := hJ.first h8
              have a0 := hB0.v0
              have a1 := hB0.v1
              refine wpOp_step rfl (fun K' hK => ?_)
              simp only [setv, List.setIfInBounds_toArray, List.set_cons_succ, List.set_cons_zero]
              have HH := Lib.hid hK
              clear hK hJ hF0 hrd
              go_simp
              refine HH.out _ _ ⟨updv v 1 (.agg #[.int .u64 (hi (f k)), .int .u64 (lo (f k))]), by simp [setv, updv], HJ.out.step (by decide) hun (Below.refl _ _) rfl (by omega) (by omega)⟩
            | 2, _ =>
              have h8 := hJ.not8 (by decide) hun
              obtain ⟨hB0, hF0⟩ := hJ.first h8
              have e1 : v 1 = .agg #[.int .u64 (hi (f k)), .int .u64 (lo (f k))] := hF0 1 (by decide) (ready_depN hrd rfl (e := ⟨1, .data⟩) (by simp) rfl)
              refine wpOp_step rfl (fun K' hK => ?_)
              simp only [setv, List.setIfInBounds_toArray, List.set_cons_succ, List.set_cons_zero]
              have HH := Lib.hid hK
              rw [e1]
              clear hK hJ hF0 hrd
              go_simp
              go_at_call 24
              refine (nn_from (f k) (HF.out k) _).mono ?_
              rintro e w2 ⟨rfl, hb⟩
              go_simp
              refine HH.out _ _ ⟨updv v 2 (.agg #[.int .u32 (wd (f k) 0), .int .u32 (wd (f k) 1), .int .u32 (wd (f k) 2), .int .u32 (wd (f k) 3), .int .u32 (wd (f k) 4), .int .u32 (wd (f k) 5)]), by simp [setv, updv, e1], HJ.out.step (by decide) hun hb rfl (by omega) (by omega)⟩
            | 3, _ =>
              have h8 := hJ.not8 (by decide) hun
              obtain ⟨hB0, hF0⟩ := hJ.first h8
              have e0 : v 0 = .agg #[.int .u32 (wd (sm f g m k) 0), .int .u32 (wd (sm f g m k) 1), .int .u32 (wd (sm f g m k) 2), .int .u32 (wd (sm f g m k) 3), .int .u32 (wd (sm f g m k) 4), .int .u32 (wd (sm f g m k) 5)] := hF0 0 (by decide) (ready_depN hrd rfl (e := ⟨0, .data⟩) (by simp) rfl)
              have e2 : v 2 = .agg #[.int .u32 (wd (f k) 0), .int .u32 (wd (f k) 1), .int .u32 (wd (f k) 2), .int .u32 (wd (f k) 3), .int .u32 (wd (f k) 4), .int .u32 (wd (f k) 5)] := hF0 2 (by decide) (ready_depN hrd rfl (e := ⟨2, .data⟩) (by simp) rfl)
              refine wpOp_step rfl (fun K' hK => ?_)
              simp only [setv, List.setIfInBounds_toArray, List.set_cons_succ, List.set_cons_zero]
              have HH := Lib.hid hK
              rw [e0, e2]
              clear hK hJ hF0 hrd
              go_simp
              go_at_call 15
              refine (nn_add (sm f g m k) (f k) _).mono ?_
              rintro e w2 ⟨rfl, hb⟩
              go_simp
              refine HH.out _ _ ⟨updv v 3 (.agg #[.int .u32 (wd ((sm f g m k) + (f k : Int)) 0), .int .u32 (wd ((sm f g m k) + (f k : Int)) 1), .int .u32 (wd ((sm f g m k) + (f k : Int)) 2), .int .u32 (wd ((sm f g m k) + (f k : Int)) 3), .int .u32 (wd ((sm f g m k) + (f k : Int)) 4), .int .u32 (wd ((sm f g m k) + (f k : Int)) 5)]), by simp [setv, updv, e0, e2], HJ.out.step (by decide) hun hb rfl (by omega) (by omega)⟩
            | 4, _ =>
              have h8 := hJ.not8 (by decide) hun
              obtain ⟨hB0, hF0⟩ := hJ.first h8
              have a0 := hB0.box.c0
              have a1 := hB0.box.c1
              refine wpOp_step rfl (fun K' hK => ?_)
              simp only [setv, List.setIfInBounds_toArray, List.set_cons_succ, List.set_cons_zero]
              have HH := Lib.hid hK
              clear hK hJ hF0 hrd
              go_simp
              refine HH.out _ _ ⟨updv v 4 (.agg #[.bool s1, .slice A1 n1 c3]), by simp [setv, updv], HJ.out.step (by decide) hun (Below.refl _ _) rfl (by omega) (by omega)⟩
            | 5, _ =>
              have h8 := hJ.not8 (by decide) hun
              obtain ⟨hB0, hF0⟩ := hJ.first h8
              have a0 := hB0.v0
              have a1 := hB0.v1
              refine wpOp_step rfl (fun K' hK => ?_)
              simp only [setv, List.setIfInBounds_toArray, List.set_cons_succ, List.set_cons_zero]
              have HH := Lib.hid hK
              clear hK hJ hF0 hrd
              go_simp
              refine HH.out _ _ ⟨updv v 5 (.agg #[.int .u64 (hi (f k)), .int .u64 (lo (f k))]), by simp [setv, updv], HJ.out.step (by decide) hun (Below.refl _ _) rfl (by omega) (by omega)⟩
            | 6, _ =>
              have h8 := hJ.not8 (by decide) hun
              obtain ⟨hB0, hF0⟩ := hJ.first h8
              have l5 : listed.getD 5 false = true := (ready_depN hrd rfl (e := ⟨5, .data⟩) (by simp) rfl)
              have e1 : v 5 = .agg #[.int .u64 (hi (f k)), .int .u64 (lo (f k))] := hF0 5 (by decide) l5
              refine wpOp_step rfl (fun K' hK => ?_)
              simp only [setv, List.setIfInBounds_toArray, List.set_cons_succ, List.set_cons_zero]
              have HH := Lib.hid hK
              rw [e1]
              clear hK hJ hF0 hrd
              go_simp
              go_at_call 23
              refine (ri_from (f k) (HF.out k) _).mono ?_
              rintro e w2 ⟨s6, A6, n6, c6, rfl, hI6, hb⟩
              go_simp
              refine HH.out _ _ ⟨updv v 6 (.agg #[.bool s6, .slice A6 n6 c6]), by simp [setv, updv, e1], HJ.out.step (by decide) hun hb ⟨s6, A6, n6, c6, rfl, hI6⟩ (by omega) (fun _ => l5)⟩
            | 7, _ =>
              have h8 := hJ.not8 (by decide) hun
              obtain ⟨hB0, hF0⟩ := hJ.first h8
              have l4 : listed.getD 4 false = true := (ready_depN hrd rfl (e := ⟨4, .data⟩) (by simp) rfl)
              have l6 : listed.getD 6 false = true := (ready_depN hrd rfl (e := ⟨6, .data⟩) (by simp) rfl)
              have e4 : v 4 = .agg #[.bool s1, .slice A1 n1 c3] := hF0 4 (by decide) l4
              obtain ⟨s6, A6, n6, c6, e6, hI6⟩ := hF0 6 (by decide) l6
              have HI4 := Lib.hid hB0.box.v
              have HI6 := Lib.hid hI6
              refine wpOp_step rfl (fun K' hK => ?_)
              simp only [setv, List.setIfInBounds_toArray, List.set_cons_succ, List.set_cons_zero]
              have HH := Lib.hid hK
              rw [e4, e6]
              clear hK hJ hF0 hrd hI6
              go_simp
              go_at_call 16
              refine (ri_addF _ s1 s6 A1 A6 c3 c6 n1 n6 _ _ HZ2.out HI4.out HI6.out).mono ?_
              rintro e w2 ⟨s7, A7, n7, c7, rfl, hI7, hb⟩
              go_simp
              refine HH.out _ _ ⟨updv v 7 (.agg #[.bool s7, .slice A7 n7 c7]), by simp [setv, updv, e4, e6], HJ.out.step (by decide) hun hb ⟨s7, A7, n7, c7, rfl, hI7⟩ (fun _ => ⟨l4, l6⟩) (by omega)⟩
            | 8, _ =>
              have l7 : listed.getD 7 false = true := (ready_depN hrd rfl (e := ⟨7, .chain⟩) (by simp) rfl)
              have l3 : listed.getD 3 false = true := (ready_depN hrd rfl (e := ⟨3, .data⟩) (by simp) rfl)
              have l0 : listed.getD 0 false = true := (ready_depN hrd rfl (e := ⟨0, .phase⟩) (by simp) rfl)
              have l1 : listed.getD 1 false = true := (ready_depN hrd rfl (e := ⟨1, .phase⟩) (by simp) rfl)
              have l2 : listed.getD 2 false = true := (ready_depN hrd rfl (e := ⟨2, .phase⟩) (by simp) rfl)
              have h8 : listed.getD 8 false = false := by
                have hs := hJ.size
                rw [Array.getD_eq_getD_getElem?, Array.getElem?_eq_getElem (by omega)] at hun ⊢; exact hun
              obtain ⟨hB0, hF0⟩ := hJ.first h8
              have e3 : v 3 = .agg #[.int .u32 (wd ((sm f g m k) + (f k : Int)) 0), .int .u32 (wd ((sm f g m k) + (f k : Int)) 1), .int .u32 (wd ((sm f g m k) + (f k : Int)) 2), .int .u32 (wd ((sm f g m k) + (f k : Int)) 3), .int .u32 (wd ((sm f g m k) + (f k : Int)) 4), .int .u32 (wd ((sm f g m k) + (f k : Int)) 5)] := hF0 3 (by decide) l3
              obtain ⟨⟨a0, a1, a2, a3, a4, a5⟩, g0, g1, g2, g3, g4, g5⟩ := six_there hB0.num
              refine wpOp_step rfl (fun K' hK => ?_)
              simp only [setv, List.setIfInBounds_toArray, List.set_cons_succ, List.set_cons_zero]
              have HH := Lib.hid hK
              rw [e3]
              clear hK hJ hF0 hrd
              go_simp
              refine HH.out _ _ ⟨v, by simp [setv, e3], HJ.out.next8 hun l0 l1 l2 l3 l7⟩
            | 9, _ =>
              have l8 : listed.getD 8 false = true := (ready_depN hrd rfl (e := ⟨8, .chain⟩) (by simp) rfl)
              have h9 : listed.getD 9 false = false := by
                have hs := hJ.size
                rw [Array.getD_eq_getD_getElem?, Array.getElem?_eq_getElem (by omega)] at hun ⊢; exact hun
              obtain ⟨hB0, hF7⟩ := hJ.mid l8 h9
              obtain ⟨s7, A7, n7, c7, e7, hI7⟩ := hF7
              have a0 := hB0.box.c0
              have a1 := hB0.box.c1
              have a2 := hB0.box.f0
              have a3 := hB0.box.f1
              have HB0 := Lib.hid hB0
              have HI7 := Lib.hid hI7
              refine wpOp_step rfl (fun K' hK => ?_)
              simp only [setv, List.setIfInBounds_toArray, List.set_cons_succ, List.set_cons_zero]
              have HH := Lib.hid hK
              rw [e7]
              clear hK hJ hrd hB0 hI7
              go_simp
              refine HH.out _ _ ⟨v, by simp [setv, e7], HJ.out.next9 l8 HB0.out HI7.out⟩
          · intro listed w1 v hJ hr
            have hall := ready_allN (by kernel_rfl) hJ.size hr
            have HL := Lib.hid (hJ.last (hall 9 (by decide)))
            clear hJ hr hall
            simp only [setv, List.setIfInBounds_toArray, List.set_cons_succ, List.set_cons_zero]
            go_wp2
            go_roundw
            case rel =>
              go_light
              refine ⟨k + 1, by omega, by simp, ?_⟩
              have hL := HL.out
              rw [← HSM.out] at hL
              exact hL
            case measure => simp [intOf]; omega
        · have HSM : Hid (sm f g m (k + 1) = sm f g m k - (f k : Int)) := Lib.hid (by show (if _ then _ else _) = _; rw [if_pos ⟨hkm, hg⟩])
          rw [hg] at d0
          clear hg hkm
          go_upto_region 6 with fail
          obtain ⟨s1, A1, n1, c3, hbx⟩ := HR.out.box
          have hbx2 := Lib.hid hbx
          clear hbx
          have HZ2 : Hid (Bd ((sm f g m k) - (f k : Int))) := Lib.hid (bd_next HF.out (k := k) (by omega) true)
          refine wp_region_slots (base := 33) (SmJ w P wr.heap.size (f k) (sm f g m k) ((sm f g m k) - (f k : Int)) s1 A1 n1 c3) (by kernel_rfl) ?_ ?_ ?_ ?_
          · simp [setv]
          · exact SmJ.begun HR.out (f k) _ hbx2.out
          · intro listed w1 v i hJ hrd
            obtain ⟨hlt2, hun⟩ := ready_subN hrd
            have hlt3 : i < 10 := hlt2
            clear hlt2
            have HJ := Lib.hid hJ
            match i, hlt3 with
            | 0, _ =>
              have h8 := hJ.not8 (by decide) hun
              obtain ⟨hB0, hF0⟩ := hJ.first h8
              obtain ⟨⟨a0, a1, a2, a3, a4, a5⟩, _⟩ := six_there hB0.num
              refine wpOp_step rfl (fun K' hK => ?_)
              simp only [setv, List.setIfInBounds_toArray, List.set_cons_succ, List.set_cons_zero]
              have HH := Lib.hid hK
              clear hK hJ hF0 hrd
              go_simp
              refine HH.out _ _ ⟨updv v 0 (.agg #[.int .u32 (wd (sm f g m k) 0), .int .u32 (wd (sm f g m k) 1), .int .u32 (wd (sm f g m k) 2), .int .u32 (wd (sm f g m k) 3), .int .u32 (wd (sm f g m k) 4), .int .u32 (wd (sm f g m k) 5)]), by simp [setv, updv], HJ.out.step (by decide) hun (Below.refl _ _) rfl (by omega) (by omega)⟩
            | 1, _ =>
              have h8 := hJ.not8 (by decide) hun
              obtain ⟨hB0, hF0⟩ := hJ.first h8
              have a0 := hB0.v0
              have a1 := hB0.v1
              refine wpOp_step rfl (fun K' hK => ?_)
              simp only [setv, List.setIfInBounds_toArray, List.set_cons_succ, List.set_cons_zero]
              have HH := Lib.hid hK
              clear hK hJ hF0 hrd
              go_simp
              refine HH.out _ _ ⟨updv v 1 (.agg #[.int .u64 (hi (f k)), .int .u64 (lo (f k))]), by simp [setv, updv], HJ.out.step (by decide) hun (Below.refl _ _) rfl (by omega) (by omega)⟩
            | 2, _ =>
              have h8 := hJ.not8 (by decide) hun
              obtain ⟨hB0, hF0⟩ := hJ.first h8
              have e1 : v 1 = .agg #[.int .u64 (hi (f k)), .int .u64 (lo (f k))] := hF0 1 (by decide) (ready_depN hrd rfl (e := ⟨1, .data⟩) (by simp) rfl)
              refine wpOp_step rfl (fun K' hK => ?_)
              simp only [setv, List.setIfInBounds_toArray, List.set_cons_succ, List.set_cons_zero]
              have HH := Lib.hid hK
              rw [e1]
              clear hK hJ hF0 hrd
              go_simp
              go_at_call 24
              refine (nn_from (f k) (HF.out k) _).mono ?_
              rintro e w2 ⟨rfl, hb⟩
              go_simp
              refine HH.out _ _ ⟨updv v 2 (.agg #[.int .u32 (wd (f k) 0), .int .u32 (wd (f k) 1), .int .u32 (wd (f k) 2), .int .u32 (wd (f k) 3), .int .u32 (wd (f k) 4), .int .u32 (wd (f k) 5)]), by simp [setv, updv, e1], HJ.out.step (by decide) hun hb rfl (by omega) (by omega)⟩
            | 3, _ =>
              have h8 := hJ.not8 (by decide) hun
              obtain ⟨hB0, hF0⟩ := hJ.first h8
              have e0 : v 0 = .agg #[.int .u32 (wd (sm f g m k) 0), .int .u32 (wd (sm f g m k) 1), .int .u32 (wd (sm f g m k) 2), .int .u32 (wd (sm f g m k) 3), .int .u32 (wd (sm f g m k) 4), .int .u32 (wd (sm f g m k) 5)] := hF0 0 (by decide) (ready_depN hrd rfl (e := ⟨0, .data⟩) (by simp) rfl)
              have e2 : v 2 = .agg #[.int .u32 (wd (f k) 0), .int .u32 (wd (f k) 1), .int .u32 (wd (f k) 2), .int .u32 (wd (f k) 3), .int .u32 (wd (f k) 4), .int .u32 (wd (f k) 5)] := hF0 2 (by decide) (ready_depN hrd rfl (e := ⟨2, .data⟩) (by simp) rfl)
              refine wpOp_step rfl (fun K' hK => ?_)
              simp only [setv, List.setIfInBounds_toArray, List.set_cons_succ, List.set_cons_zero]
              have HH := Lib.hid hK
              rw [e0, e2]
              clear hK hJ hF0 hrd
              go_simp
              go_at_call 20
              refine (nn_sub (sm f g m k) (f k) _).mono ?_
              rintro e w2 ⟨rfl, hb⟩
              go_simp
              refine HH.out _ _ ⟨updv v 3 (.agg #[.int .u32 (wd ((sm f g m k) - (f k : Int)) 0), .int .u32 (wd ((sm f g m k) - (f k : Int)) 1), .int .u32 (wd ((sm f g m k) - (f k : Int)) 2), .int .u32 (wd ((sm f g m k) - (f k : Int)) 3), .int .u32 (wd ((sm f g m k) - (f k : Int)) 4), .int .u32 (wd ((sm f g m k) - (f k : Int)) 5)]), by simp [setv, updv, e0, e2], HJ.out.step (by decide) hun hb rfl (by omega) (by omega)⟩
            | 4, _ =>
              have h8 := hJ.not8 (by decide) hun
              obtain ⟨hB0, hF0⟩ := hJ.first h8
              have a0 := hB0.box.c0
              have a1 := hB0.box.c1
              refine wpOp_step rfl (fun K' hK => ?_)
              simp only [setv, List.setIfInBounds_toArray, List.set_cons_succ, List.set_cons_zero]
              have HH := Lib.hid hK
              clear hK hJ hF0 hrd
              go_simp
              refine HH.out _ _ ⟨updv v 4 (.agg #[.bool s1, .slice A1 n1 c3]), by simp [setv, updv], HJ.out.step (by decide) hun (Below.refl _ _) rfl (by omega) (by omega)⟩
            | 5, _ =>
              have h8 := hJ.not8 (by decide) hun
              obtain ⟨hB0, hF0⟩ := hJ.first h8
              have a0 := hB0.v0
              have a1 := hB0.v1
              refine wpOp_step rfl (fun K' hK => ?_)
              simp only [setv, List.setIfInBounds_toArray, List.set_cons_succ, List.set_cons_zero]
              have HH := Lib.hid hK
              clear hK hJ hF0 hrd
              go_simp
              refine HH.out _ _ ⟨updv v 5 (.agg #[.int .u64 (hi (f k)), .int .u64 (lo (f k))]), by simp [setv, updv], HJ.out.step (by decide) hun (Below.refl _ _) rfl (by omega) (by omega)⟩
            | 6, _ =>
              have h8 := hJ.not8 (by decide) hun
              obtain ⟨hB0, hF0⟩ := hJ.first h8
              have l5 : listed.getD 5 false = true := (ready_depN hrd rfl (e := ⟨5, .data⟩) (by simp) rfl)
              have e1 : v 5 = .agg #[.int .u64 (hi (f k)), .int .u64 (lo (f k))] := hF0 5 (by decide) l5
              refine wpOp_step rfl (fun K' hK => ?_)
              simp only [setv, List.setIfInBounds_toArray, List.set_cons_succ, List.set_cons_zero]
              have HH := Lib.hid hK
              rw [e1]
              clear hK hJ hF0 hrd
              go_simp
              go_at_call 23
              refine (ri_from (f k) (HF.out k) _).mono ?_
              rintro e w2 ⟨s6, A6, n6, c6, rfl, hI6, hb⟩
              go_simp
              refine HH.out _ _ ⟨updv v 6 (.agg #[.bool s6, .slice A6 n6 c6]), by simp [setv, updv, e1], HJ.out.step (by decide) hun hb ⟨s6, A6, n6, c6, rfl, hI6⟩ (by omega) (fun _ => l5)⟩
            | 7, _ =>
              have h8 := hJ.not8 (by decide) hun
              obtain ⟨hB0, hF0⟩ := hJ.first h8
              have l4 : listed.getD 4 false = true := (ready_depN hrd rfl (e := ⟨4, .data⟩) (by simp) rfl)
              have l6 : listed.getD 6 false = true := (ready_depN hrd rfl (e := ⟨6, .data⟩) (by simp) rfl)
              have e4 : v 4 = .agg #[.bool s1, .slice A1 n1 c3] := hF0 4 (by decide) l4
              obtain ⟨s6, A6, n6, c6, e6, hI6⟩ := hF0 6 (by decide) l6
              have HI4 := Lib.hid hB0.box.v
              have HI6 := Lib.hid hI6
              refine wpOp_step rfl (fun K' hK => ?_)
              simp only [setv, List.setIfInBounds_toArray, List.set_cons_succ, List.set_cons_zero]
              have HH := Lib.hid hK
              rw [e4, e6]
              clear hK hJ hF0 hrd hI6
              go_simp
              go_at_call 27
              refine (ri_sub _ s1 s6 A1 A6 c3 c6 n1 n6 _ _ HZ2.out HI4.out HI6.out).mono ?_
              rintro e w2 ⟨s7, A7, n7, c7, rfl, hI7, hb⟩
              go_simp
              refine HH.out _ _ ⟨updv v 7 (.agg #[.bool s7, .slice A7 n7 c7]), by simp [setv, updv, e4, e6], HJ.out.step (by decide) hun hb ⟨s7, A7, n7, c7, rfl, hI7⟩ (fun _ => ⟨l4, l6⟩) (by omega)⟩
            | 8, _ =>
              have l7 : listed.getD 7 false = true := (ready_depN hrd rfl (e := ⟨7, .chain⟩) (by simp) rfl)
              have l3 : listed.getD 3 false = true := (ready_depN hrd rfl (e := ⟨3, .data⟩) (by simp) rfl)
              have l0 : listed.getD 0 false = true := (ready_depN hrd rfl (e := ⟨0, .phase⟩) (by simp) rfl)
              have l1 : listed.getD 1 false = true := (ready_depN hrd rfl (e := ⟨1, .phase⟩) (by simp) rfl)
              have l2 : listed.getD 2 false = true := (ready_depN hrd rfl (e := ⟨2, .phase⟩) (by simp) rfl)
              have h8 : listed.getD 8 false = false := by
                have hs := hJ.size
                rw [Array.getD_eq_getD_getElem?, Array.getElem?_eq_getElem (by omega)] at hun ⊢; exact hun
              obtain ⟨hB0, hF0⟩ := hJ.first h8
              have e3 : v 3 = .agg #[.int .u32 (wd ((sm f g m k) - (f k : Int)) 0), .int .u32 (wd ((sm f g m k) - (f k : Int)) 1), .int .u32 (wd ((sm f g m k) - (f k : Int)) 2), .int .u32 (wd ((sm f g m k) - (f k : Int)) 3), .int .u32 (wd ((sm f g m k) - (f k : Int)) 4), .int .u32 (wd ((sm f g m k) - (f k : Int)) 5)] := hF0 3 (by decide) l3
              obtain ⟨⟨a0, a1, a2, a3, a4, a5⟩, g0, g1, g2, g3, g4, g5⟩ := six_there hB0.num
              refine wpOp_step rfl (fun K' hK => ?_)
              simp only [setv, List.setIfInBounds_toArray, List.set_cons_succ, List.set_cons_zero]
              have HH := Lib.hid hK
              rw [e3]
              clear hK hJ hF0 hrd
              go_simp
              refine HH.out _ _ ⟨v, by simp [setv, e3], HJ.out.next8 hun l0 l1 l2 l3 l7⟩
            | 9, _ =>
              have l8 : listed.getD 8 false = true := (ready_depN hrd rfl (e := ⟨8, .chain⟩) (by simp) rfl)
              have h9 : listed.getD 9 false = false := by
                have hs := hJ.size
                rw [Array.getD_eq_getD_getElem?, Array.getElem?_eq_getElem (by omega)] at hun ⊢; exact hun
              obtain ⟨hB0, hF7⟩ := hJ.mid l8 h9
              obtain ⟨s7, A7, n7, c7, e7, hI7⟩ := hF7
              have a0 := hB0.box.c0
              have a1 := hB0.box.c1
              have a2 := hB0.box.f0
              have a3 := hB0.box.f1
              have HB0 := Lib.hid hB0
              have HI7 := Lib.hid hI7
              refine wpOp_step rfl (fun K' hK => ?_)
              simp only [setv, List.setIfInBounds_toArray, List.set_cons_succ, List.set_cons_zero]
              have HH := Lib.hid hK
              rw [e7]
              clear hK hJ hrd hB0 hI7
              go_simp
              refine HH.out _ _ ⟨v, by simp [setv, e7], HJ.out.next9 l8 HB0.out HI7.out⟩
          · intro listed w1 v hJ hr
            have hall := ready_allN (by kernel_rfl) hJ.size hr
            have HL := Lib.hid (hJ.last (hall 9 (by decide)))
            clear hJ hr hall
            simp only [setv, List.setIfInBounds_toArray, List.set_cons_succ, List.set_cons_zero]
            go_wp2
            go_roundw
            case rel =>
              go_light
              refine ⟨k + 1, by omega, by simp, ?_⟩
              have hL := HL.out
              rw [← HSM.out] at hL
              exact hL
            case measure => simp [intOf]; omega
      · have HSM : Hid (sm f g m (k + 1) = sm f g m k + (f k : Int)) := Lib.hid (by show (if _ then _ else _) = _; rw [if_neg (by intro h; exact hkm h.1)])
        have hkm2 : ¬ (k : Int) < (m : Int) := by omega
        clear hkm
        go_upto_region 7 with fail
        obtain ⟨s1, A1, n1, c3, hbx⟩ := HR.out.box
        have hbx2 := Lib.hid hbx
        clear hbx
        have HZ2 : Hid (Bd ((sm f g m k) + (f k : Int))) := Lib.hid (bd_next HF.out (k := k) (by omega) false)
        refine wp_region_slots (base := 41) (SmJ w P wr.heap.size (f k) (sm f g m k) ((sm f g m k) + (f k : Int)) s1 A1 n1 c3) (by kernel_rfl) ?_ ?_ ?_ ?_
        · simp [setv]
        · exact SmJ.begun HR.out (f k) _ hbx2.out
        · intro listed w1 v i hJ hrd
          obtain ⟨hlt2, hun⟩ := ready_subN hrd
          have hlt3 : i < 10 := hlt2
          clear hlt2
          have HJ := Lib.hid hJ
          match i, hlt3 with
          | 0, _ =>
            have h8 := hJ.not8 (by decide) hun
            obtain ⟨hB0, hF0⟩ := hJ.first h8
            obtain ⟨⟨a0, a1, a2, a3, a4, a5⟩, _⟩ := six_there hB0.num
            refine wpOp_step rfl (fun K' hK => ?_)
            simp only [setv, List.setIfInBounds_toArray, List.set_cons_succ, List.set_cons_zero]
            have HH := Lib.hid hK
            clear hK hJ hF0 hrd
            go_simp
            refine HH.out _ _ ⟨updv v 0 (.agg #[.int .u32 (wd (sm f g m k) 0), .int .u32 (wd (sm f g m k) 1), .int .u32 (wd (sm f g m k) 2), .int .u32 (wd (sm f g m k) 3), .int .u32 (wd (sm f g m k) 4), .int .u32 (wd (sm f g m k) 5)]), by simp [setv, updv], HJ.out.step (by decide) hun (Below.refl _ _) rfl (by omega) (by omega)⟩
          | 1, _ =>
            have h8 := hJ.not8 (by decide) hun
            obtain ⟨hB0, hF0⟩ := hJ.first h8
            have a0 := hB0.v0
            have a1 := hB0.v1
            refine wpOp_step rfl (fun K' hK => ?_)
            simp only [setv, List.setIfInBounds_toArray, List.set_cons_succ, List.set_cons_zero]
            have HH := Lib.hid hK
            clear hK hJ hF0 hrd
            go_simp
            refine HH.out _ _ ⟨updv v 1 (.agg #[.int .u64 (hi (f k)), .int .u64 (lo (f k))]), by simp [setv, updv], HJ.out.step (by decide) hun (Below.refl _ _) rfl (by omega) (by omega)⟩
          | 2, _ =>
            have h8 := hJ.not8 (by decide) hun
            obtain ⟨hB0, hF0⟩ := hJ.first h8
            have e1 : v 1 = .agg #[.int .u64 (hi (f k)), .int .u64 (lo (f k))] := hF0 1 (by decide) (ready_depN hrd rfl (e := ⟨1, .data⟩) (by simp) rfl)
            refine wpOp_step rfl (fun K' hK => ?_)
            simp only [setv, List.setIfInBounds_toArray, List.set_cons_succ, List.set_cons_zero]
            have HH := Lib.hid hK
            rw [e1]
            clear hK hJ hF0 hrd
            go_simp
            go_at_call 24
            refine (nn_from (f k) (HF.out k) _).mono ?_
            rintro e w2 ⟨rfl, hb⟩
            go_simp
            refine HH.out _ _ ⟨updv v 2 (.agg #[.int .u32 (wd (f k) 0), .int .u32 (wd (f k) 1), .int .u32 (wd (f k) 2), .int .u32 (wd (f k) 3), .int .u32 (wd (f k) 4), .int .u32 (wd (f k) 5)]), by simp [setv, updv, e1], HJ.out.step (by decide) hun hb rfl (by omega) (by omega)⟩
          | 3, _ =>
            have h8 := hJ.not8 (by decide) hun
            obtain ⟨hB0, hF0⟩ := hJ.first h8
            have e0 : v 0 = .agg #[.int .u32 (wd (sm f g m k) 0), .int .u32 (wd (sm f g m k) 1), .int .u32 (wd (sm f g m k) 2), .int .u32 (wd (sm f g m k) 3), .int .u32 (wd (sm f g m k) 4), .int .u32 (wd (sm f g m k) 5)] := hF0 0 (by decide) (ready_depN hrd rfl (e := ⟨0, .data⟩) (by simp) rfl)
            have e2 : v 2 = .agg #[.int .u32 (wd (f k) 0), .int .u32 (wd (f k) 1), .int .u32 (wd (f k) 2), .int .u32 (wd (f k) 3), .int .u32 (wd (f k) 4), .int .u32 (wd (f k) 5)] := hF0 2 (by decide) (ready_depN hrd rfl (e := ⟨2, .data⟩) (by simp) rfl)
            refine wpOp_step rfl (fun K' hK => ?_)
            simp only [setv, List.setIfInBounds_toArray, List.set_cons_succ, List.set_cons_zero]
            have HH := Lib.hid hK
            rw [e0, e2]
            clear hK hJ hF0 hrd
            go_simp
            go_at_call 15
            refine (nn_add (sm f g m k) (f k) _).mono ?_
            rintro e w2 ⟨rfl, hb⟩
            go_simp
            refine HH.out _ _ ⟨updv v 3 (.agg #[.int .u32 (wd ((sm f g m k) + (f k : Int)) 0), .int .u32 (wd ((sm f g m k) + (f k : Int)) 1), .int .u32 (wd ((sm f g m k) + (f k : Int)) 2), .int .u32 (wd ((sm f g m k) + (f k : Int)) 3), .int .u32 (wd ((sm f g m k) + (f k : Int)) 4), .int .u32 (wd ((sm f g m k) + (f k : Int)) 5)]), by simp [setv, updv, e0, e2], HJ.out.step (by decide) hun hb rfl (by omega) (by omega)⟩
          | 4, _ =>
            have h8 := hJ.not8 (by decide) hun
            obtain ⟨hB0, hF0⟩ := hJ.first h8
            have a0 := hB0.box.c0
            have a1 := hB0.box.c1
            refine wpOp_step rfl (fun K' hK => ?_)
            simp only [setv, List.setIfInBounds_toArray, List.set_cons_succ, List.set_cons_zero]
            have HH := Lib.hid hK
            clear hK hJ hF0 hrd
            go_simp
            refine HH.out _ _ ⟨updv v 4 (.agg #[.bool s1, .slice A1 n1 c3]), by simp [setv, updv], HJ.out.step (by decide) hun (Below.refl _ _) rfl (by omega) (by omega)⟩
          | 5, _ =>
            have h8 := hJ.not8 (by decide) hun
            obtain ⟨hB0, hF0⟩ := hJ.first h8
            have a0 := hB0.v0
            have a1 := hB0.v1
            refine wpOp_step rfl (fun K' hK => ?_)
            simp only [setv, List.setIfInBounds_toArray, List.set_cons_succ, List.set_cons_zero]
            have HH := Lib.hid hK
            clear hK hJ hF0 hrd
            go_simp
            refine HH.out _ _ ⟨updv v 5 (.agg #[.int .u64 (hi (f k)), .int .u64 (lo (f k))]), by simp [setv, updv], HJ.out.step (by decide) hun (Below.refl _ _) rfl (by omega) (by omega)⟩
          | 6, _ =>
            have h8 := hJ.not8 (by decide) hun
            obtain ⟨hB0, hF0⟩ := hJ.first h8
            have l5 : listed.getD 5 false = true := (ready_depN hrd rfl (e := ⟨5, .data⟩) (by simp) rfl)
            have e1 : v 5 = .agg #[.int .u64 (hi (f k)), .int .u64 (lo (f k))] := hF0 5 (by decide) l5
            refine wpOp_step rfl (fun K' hK => ?_)
            simp only [setv, List.setIfInBounds_toArray, List.set_cons_succ, List.set_cons_zero]
            have HH := Lib.hid hK
            rw [e1]
            clear hK hJ hF0 hrd
            go_simp
            go_at_call 23
            refine (ri_from (f k) (HF.out k) _).mono ?_
            rintro e w2 ⟨s6, A6, n6, c6, rfl, hI6, hb⟩
            go_simp
            refine HH.out _ _ ⟨updv v 6 (.agg #[.bool s6, .slice A6 n6 c6]), by simp [setv, updv, e1], HJ.out.step (by decide) hun hb ⟨s6, A6, n6, c6, rfl, hI6⟩ (by omega) (fun _ => l5)⟩
          | 7, _ =>
            have h8 := hJ.not8 (by decide) hun
            obtain ⟨hB0, hF0⟩ := hJ.first h8
            have l4 : listed.getD 4 false = true := (ready_depN hrd rfl (e := ⟨4, .data⟩) (by simp) rfl)
            have l6 : listed.getD 6 false = true := (ready_depN hrd rfl (e := ⟨6, .data⟩) (by simp) rfl)
            have e4 : v 4 = .agg #[.bool s1, .slice A1 n1 c3] := hF0 4 (by decide) l4
            obtain ⟨s6, A6, n6, c6, e6, hI6⟩ := hF0 6 (by decide) l6
            have HI4 := Lib.hid hB0.box.v
            have HI6 := Lib.hid hI6
            refine wpOp_step rfl (fun K' hK => ?_)
            simp only [setv, List.setIfInBounds_toArray, List.set_cons_succ, List.set_cons_zero]
            have HH := Lib.hid hK
            rw [e4, e6]
            clear hK hJ hF0 hrd hI6
            go_simp
            go_at_call 16
            refine (ri_addF _ s1 s6 A1 A6 c3 c6 n1 n6 _ _ HZ2.out HI4.out HI6.out).mono ?_
            rintro e w2 ⟨s7, A7, n7, c7, rfl, hI7, hb⟩
            go_simp
            refine HH.out _ _ ⟨updv v 7 (.agg #[.bool s7, .slice A7 n7 c7]), by simp [setv, updv, e4, e6], HJ.out.step (by decide) hun hb ⟨s7, A7, n7, c7, rfl, hI7⟩ (fun _ => ⟨l4, l6⟩) (by omega)⟩
          | 8, _ =>
            have l7 : listed.getD 7 false = true := (ready_depN hrd rfl (e := ⟨7, .chain⟩) (by simp) rfl)
            have l3 : listed.getD 3 false = true := (ready_depN hrd rfl (e := ⟨3, .data⟩) (by simp) rfl)
            have l0 : listed.getD 0 false = true := (ready_depN hrd rfl (e := ⟨0, .phase⟩) (by simp) rfl)
            have l1 : listed.getD 1 false = true := (ready_depN hrd rfl (e := ⟨1, .phase⟩) (by simp) rfl)
            have l2 : listed.getD 2 false = true := (ready_depN hrd rfl (e := ⟨2, .phase⟩) (by simp) rfl)
            have h8 : listed.getD 8 false = false := by
              have hs := hJ.size
              rw [Array.getD_eq_getD_getElem?, Array.getElem?_eq_getElem (by omega)] at hun ⊢; exact hun
            obtain ⟨hB0, hF0⟩ := hJ.first h8
            have e3 : v 3 = .agg #[.int .u32 (wd ((sm f g m k) + (f k : Int)) 0), .int .u32 (wd ((sm f g m k) + (f k : Int)) 1), .int .u32 (wd ((sm f g m k) + (f k : Int)) 2), .int .u32 (wd ((sm f g m k) + (f k : Int)) 3), .int .u32 (wd ((sm f g m k) + (f k : Int)) 4), .int .u32 (wd ((sm f g m k) + (f k : Int)) 5)] := hF0 3 (by decide) l3
            obtain ⟨⟨a0, a1, a2, a3, a4, a5⟩, g0, g1, g2, g3, g4, g5⟩ := six_there hB0.num
            refine wpOp_step rfl (fun K' hK => ?_)
            simp only [setv, List.setIfInBounds_toArray, List.set_cons_succ, List.set_cons_zero]
            have HH := Lib.hid hK
            rw [e3]
            clear hK hJ hF0 hrd
            go_simp
            refine HH.out _ _ ⟨v, by simp [setv, e3], HJ.out.next8 hun l0 l1 l2 l3 l7⟩
          | 9, _ =>
            have l8 : listed.getD 8 false = true := (ready_depN hrd rfl (e := ⟨8, .chain⟩) (by simp) rfl)
            have h9 : listed.getD 9 false = false := by
              have hs := hJ.size
              rw [Array.getD_eq_getD_getElem?, Array.getElem?_eq_getElem (by omega)] at hun ⊢; exact hun
            obtain ⟨hB0, hF7⟩ := hJ.mid l8 h9
            obtain ⟨s7, A7, n7, c7, e7, hI7⟩ := hF7
            have a0 := hB0.box.c0
            have a1 := hB0.box.c1
            have a2 := hB0.box.f0
            have a3 := hB0.box.f1
            have HB0 := Lib.hid hB0
            have HI7 := Lib.hid hI7
            refine wpOp_step rfl (fun K' hK => ?_)
            simp only [setv, List.setIfInBounds_toArray, List.set_cons_succ, List.set_cons_zero]
            have HH := Lib.hid hK
            rw [e7]
            clear hK hJ hrd hB0 hI7
            go_simp
            refine HH.out _ _ ⟨v, by simp [setv, e7], HJ.out.next9 l8 HB0.out HI7.out⟩
        · intro listed w1 v hJ hr
          have hall := ready_allN (by kernel_rfl) hJ.size hr
          have HL := Lib.hid (hJ.last (hall 9 (by decide)))
          clear hJ hr hall
          simp only [setv, List.setIfInBounds_toArray, List.set_cons_succ, List.set_cons_zero]
          go_wp2
          go_roundw
          case rel =>
            go_light
            refine ⟨k + 1, by omega, by simp, ?_⟩
            have hL := HL.out
            rw [← HSM.out] at hL
            exact hL
          case measure => simp [intOf]; omega
    · have e : k = q := by omega
      subst e
      have ha := HR.out
      clear hR
      obtain ⟨s1, A1, n1, c3, hbx⟩ := ha.box
      have hp := ha.np
      obtain ⟨⟨a0, a1, a2, a3, a4, a5⟩, _⟩ := six_there ha.num
      have b0 := hbx.c0
      have b1 := hbx.c1
      have z6 : RowAt wr w.heap.size 6 (wV 0) := ha.r6.congr fun i _ => by unfold wV; rw [wd_zero]
      have Z6 := Lib.hid z6
      have x0 : wr.cell? ⟨w.heap.size, 0, none⟩ = some (.int .u32 0) := ha.r6.cell 0 (by decide)
      have x1 : wr.cell? ⟨w.heap.size, 1, none⟩ = some (.int .u32 0) := ha.r6.cell 1 (by decide)
      have x2 : wr.cell? ⟨w.heap.size, 2, none⟩ = some (.int .u32 0) := ha.r6.cell 2 (by decide)
      have x3 : wr.cell? ⟨w.heap.size, 3, none⟩ = some (.int .u32 0) := ha.r6.cell 3 (by decide)
      have x4 : wr.cell? ⟨w.heap.size, 4, none⟩ = some (.int .u32 0) := ha.r6.cell 4 (by decide)
      have x5 : wr.cell? ⟨w.heap.size, 5, none⟩ = some (.int .u32 0) := ha.r6.cell 5 (by decide)
      have y0 := ha.r6.froz 0 (by decide)
      have y1 := ha.r6.froz 1 (by decide)
      have y2 := ha.r6.froz 2 (by decide)
      have y3 := ha.r6.froz 3 (by decide)
      have y4 := ha.r6.froz 4 (by decide)
      have y5 := ha.r6.froz 5 (by decide)
      obtain ⟨r0, t0⟩ := ha.res.c0
      obtain ⟨r1, r2, r3, t1⟩ := ha.res.c1
      have t2 := ha.res.f0
      have t3 := ha.res.f1
      have HA2 := Lib.hid ha
      have HX := Lib.hid hbx
      clear ha hbx z6
      go_wp2
      go_region
      go_wp2
      have hI1 := HX.out.v.store6 Z6.out (.int .u32 (wd (sm f g m k) 0)) (.int .u32 (wd (sm f g m k) 1)) (.int .u32 (wd (sm f g m k) 2)) (.int .u32 (wd (sm f g m k) 3)) (.int .u32 (wd (sm f g m k) 4)) (.int .u32 (wd (sm f g m k) 5))
      have u0 : ((((((wr.setCell ⟨w.heap.size, 0, none⟩ (.int .u32 (wd (sm f g m k) 0))).setCell ⟨w.heap.size, 1, none⟩ (.int .u32 (wd (sm f g m k) 1))).setCell ⟨w.heap.size, 2, none⟩ (.int .u32 (wd (sm f g m k) 2))).setCell ⟨w.heap.size, 3, none⟩ (.int .u32 (wd (sm f g m k) 3))).setCell ⟨w.heap.size, 4, none⟩ (.int .u32 (wd (sm f g m k) 4))).setCell ⟨w.heap.size, 5, none⟩ (.int .u32 (wd (sm f g m k) 5))).cell? ⟨w.heap.size + 1, 0, none⟩ = some (.bool r0) := by rw [cell_far6 (by omega)]; exact t0
      have u1 : ((((((wr.setCell ⟨w.heap.size, 0, none⟩ (.int .u32 (wd (sm f g m k) 0))).setCell ⟨w.heap.size, 1, none⟩ (.int .u32 (wd (sm f g m k) 1))).setCell ⟨w.heap.size, 2, none⟩ (.int .u32 (wd (sm f g m k) 2))).setCell ⟨w.heap.size, 3, none⟩ (.int .u32 (wd (sm f g m k) 3))).setCell ⟨w.heap.size, 4, none⟩ (.int .u32 (wd (sm f g m k) 4))).setCell ⟨w.heap.size, 5, none⟩ (.int .u32 (wd (sm f g m k) 5))).cell? ⟨w.heap.size + 1, 1, none⟩ = some (.slice r1 r2 r3) := by rw [cell_far6 (by omega)]; exact t1
      have q1 : RowAt ((((((wr.setCell ⟨w.heap.size, 0, none⟩ (.int .u32 (wd (sm f g m k) 0))).setCell ⟨w.heap.size, 1, none⟩ (.int .u32 (wd (sm f g m k) 1))).setCell ⟨w.heap.size, 2, none⟩ (.int .u32 (wd (sm f g m k) 2))).setCell ⟨w.heap.size, 3, none⟩ (.int .u32 (wd (sm f g m k) 3))).setCell ⟨w.heap.size, 4, none⟩ (.int .u32 (wd (sm f g m k) 4))).setCell ⟨w.heap.size, 5, none⟩ (.int .u32 (wd (sm f g m k) 5))) w.heap.size 6 (wV (sm f g m k)) := row6 HA2.out.r6
      have q5 : Below w.heap.size w ((((((wr.setCell ⟨w.heap.size, 0, none⟩ (.int .u32 (wd (sm f g m k) 0))).setCell ⟨w.heap.size, 1, none⟩ (.int .u32 (wd (sm f g m k) 1))).setCell ⟨w.heap.size, 2, none⟩ (.int .u32 (wd (sm f g m k) 2))).setCell ⟨w.heap.size, 3, none⟩ (.int .u32 (wd (sm f g m k) 3))).setCell ⟨w.heap.size, 4, none⟩ (.int .u32 (wd (sm f g m k) 4))).setCell ⟨w.heap.size, 5, none⟩ (.int .u32 (wd (sm f g m k) 5))) := store6 HA2.out.below (Nat.le_refl _) _ _ _ _ _ _
      clear x0 x1 x2 x3 x4 x5 y0 y1 y2 y3 y4 y5 t0 t1 t2 t3 a0 a1 a2 a3 a4 a5 b0 b1
      generalize ((((((wr.setCell ⟨w.heap.size, 0, none⟩ (.int .u32 (wd (sm f g m k) 0))).setCell ⟨w.heap.size, 1, none⟩ (.int .u32 (wd (sm f g m k) 1))).setCell ⟨w.heap.size, 2, none⟩ (.int .u32 (wd (sm f g m k) 2))).setCell ⟨w.heap.size, 3, none⟩ (.int .u32 (wd (sm f g m k) 3))).setCell ⟨w.heap.size, 4, none⟩ (.int .u32 (wd (sm f g m k) 4))).setCell ⟨w.heap.size, 5, none⟩ (.int .u32 (wd (sm f g m k) 5))) = W6 at hI1 u0 u1 q1 q5 ⊢
      have hI2 := hI1.store u0 s1 (.slice A1 n1 c3)
      have q2 : ((W6.setCell ⟨w.heap.size + 1, 0, none⟩ (.bool s1)).setCell ⟨w.heap.size + 1, 1, none⟩ (.slice A1 n1 c3)).drew.cell? ⟨w.heap.size + 1, 0, none⟩ = some (.bool s1) := by
        show (World.setCell _ _ _).cell? _ = _
        rw [World.cell?_setCell_other _ _ _ _ (by simp), World.cell?_setCell_same' _ _ _ (by rw [u0]; rfl)]
      have q3 : ((W6.setCell ⟨w.heap.size + 1, 0, none⟩ (.bool s1)).setCell ⟨w.heap.size + 1, 1, none⟩ (.slice A1 n1 c3)).drew.cell? ⟨w.heap.size + 1, 1, none⟩ = some (.slice A1 n1 c3) := by
        show (World.setCell _ _ _).cell? _ = _
        rw [World.cell?_setCell_same' _ _ _ (by rw [World.cell?_setCell_other _ _ _ _ (by simp), u1]; rfl)]
      have q6 : RowAt ((W6.setCell ⟨w.heap.size + 1, 0, none⟩ (.bool s1)).setCell ⟨w.heap.size + 1, 1, none⟩ (.slice A1 n1 c3)).drew w.heap.size 6 (wV (sm f g m k)) := ((q1.far _ (by simp) _).far _ (by simp) _).drew
      have q7 : Below w.heap.size w ((W6.setCell ⟨w.heap.size + 1, 0, none⟩ (.bool s1)).setCell ⟨w.heap.size + 1, 1, none⟩ (.slice A1 n1 c3)).drew := (store2 q5 (by omega) _ _).drew
      have q8 : IntS ((W6.setCell ⟨w.heap.size + 1, 0, none⟩ (.bool s1)).setCell ⟨w.heap.size + 1, 1, none⟩ (.slice A1 n1 c3)).drew s1 A1 n1 c3 (sm f g m k) := ⟨hI2.1, hI2.2⟩
      generalize ((W6.setCell ⟨w.heap.size + 1, 0, none⟩ (.bool s1)).setCell ⟨w.heap.size + 1, 1, none⟩ (.slice A1 n1 c3)).drew = W8 at q2 q3 q6 q7 q8 ⊢
      have e1 : (loadVar 27 ⟨w.heap.size, 0, none⟩).run Try.prog W8 = .ok (.agg #[.int .u32 (wd (sm f g m k) 0), .int .u32 (wd (sm f g m k) 1), .int .u32 (wd (sm f g m k) 2), .int .u32 (wd (sm f g m k) 3), .int .u32 (wd (sm f g m k) 4), .int .u32 (wd (sm f g m k) 5)]) W8 := loadVar_num q6
      have e2 : (loadVar 30 ⟨w.heap.size + 1, 0, none⟩).run Try.prog W8 = .ok (.agg #[.bool s1, .slice A1 n1 c3]) W8 := by simp [go_sem, q2, q3]
      refine bodyPost_ret (v := .tuple #[.agg #[.int .u32 (wd (sm f g m k) 0), .int .u32 (wd (sm f g m k) 1), .int .u32 (wd (sm f g m k) 2), .int .u32 (wd (sm f g m k) 3), .int .u32 (wd (sm f g m k) 4), .int .u32 (wd (sm f g m k) 5)], .agg #[.bool s1, .slice A1 n1 c3]]) (by simp [results, Try.results8, asAddr, e1, e2]) rfl ⟨s1, A1, n1, c3, rfl, q8, q7⟩
end Go.Proofs.Ytbacclhnbecojaa
