/- Rows that live in blocks of their own time (from a to b): whatever changes elsewhere, they stay. -/
import Derived.Test.YtldgjahpmlafgaaGreatSLongP
namespace Go.Proofs.YtldgjahpmlafgaaGreat
open Go.RowKit

theorem flatM_get {α : Type} {sz : Nat} : ∀ (ps : List (List Value × α)), (∀ q ∈ ps, q.1.length = sz) → ∀ (i j : Nat) (q : List Value × α), ps[i]? = some q → j < sz → (ps.flatMap Prod.fst)[i * sz + j]? = q.1[j]?
  | [], _, i, j, q, h, _ => by simp at h
  | y :: ys, hsz, 0, j, q, h, hj => by
    simp at h
    subst h
    simp only [List.flatMap_cons, Nat.zero_mul, Nat.zero_add]
    rw [List.getElem?_append_left (by rw [hsz y (List.mem_cons_self ..)]; exact hj)]
  | y :: ys, hsz, i + 1, j, q, h, hj => by
    simp only [List.getElem?_cons_succ] at h
    have ih := flatM_get ys (fun q hq => hsz q (List.mem_cons_of_mem _ hq)) i j q h hj
    have hy := hsz y (List.mem_cons_self ..)
    simp only [List.flatMap_cons]
    rw [List.getElem?_append_right (by rw [hy, Nat.add_mul]; omega), hy, ← ih]
    congr 1
    rw [Nat.add_mul]
    omega
/-- A literal slice of structs. -/
theorem rowV_lit {α : Type} {P : CellP α} {sz B : Nat} {W : World} {R n cap : Nat} (ps : List (List Value × α)) (hsz : ∀ q ∈ ps, q.1.length = sz) (hR : R < B) (hn : n = ps.length) (hcap : n ≤ cap) (hm : cap ≤ maxLen)
    (hc : ∀ j (h : j < (ps.flatMap Prod.fst).length), W.cell? ⟨R, j, none⟩ = some ((ps.flatMap Prod.fst)[j]'h)) (hP : ∀ q ∈ ps, P B W q.1 q.2) : RowV sz P B W (.slice (some ⟨R, 0, none⟩) n cap) (ps.map Prod.snd) := by
  refine ⟨_, _, _, rfl, Lib.hid (by rw [List.length_map]; exact hn), hcap, hm, .inr ⟨R, 0, rfl, fun i x hx => ?_⟩⟩
  rw [List.getElem?_map] at hx
  obtain ⟨q, hq, rfl⟩ := Option.map_eq_some_iff.1 hx
  have hmem := List.mem_of_getElem? hq
  refine ⟨hR, q.1, fun j hj => ?_, hP q hmem⟩
  have h1 := flatM_get ps hsz i j q hq (by rw [← hsz q hmem]; exact hj)
  rw [List.getElem?_eq_getElem hj] at h1
  have h2 := (List.getElem?_eq_some_iff.1 h1).1
  rw [Nat.zero_add, hc _ h2, ← h1, List.getElem?_eq_getElem h2]
/-- The blocks from a to b are the same. -/
structure SameB (a b : Nat) (w w2 : World) : Prop where
  size : b ≤ w2.heap.size
  blk : ∀ k, a ≤ k → k < b → w2.heap[k]? = w.heap[k]?
theorem SameB.refl {a b : Nat} {w : World} (h : b ≤ w.heap.size) : SameB a b w w := ⟨h, fun _ _ _ => rfl⟩
theorem SameB.trans {a b : Nat} {w w1 w2 : World} (h : SameB a b w w1) (k : SameB a b w1 w2) : SameB a b w w2 := ⟨k.size, fun j h1 h2 => (k.blk j h1 h2).trans (h.blk j h1 h2)⟩
theorem SameB.narrow {a b a2 b2 : Nat} {w w2 : World} (h : SameB a b w w2) (ha : a ≤ a2) (hb : b2 ≤ b) : SameB a2 b2 w w2 := ⟨Nat.le_trans hb h.size, fun k h1 h2 => h.blk k (Nat.le_trans ha h1) (Nat.lt_of_lt_of_le h2 hb)⟩
theorem SameB.of_grown {a b : Nat} {w w2 : World} {row : Option Nat} (hg : w.grownBy w2 row) (hb : b ≤ w.heap.size) (hr : ∀ k, row = some k → k < a ∨ b ≤ k) : SameB a b w w2 :=
  ⟨Nat.le_trans hb hg.size, fun k h1 h2 => hg.block k (Nat.lt_of_lt_of_le h2 hb) (fun e => by have := hr k e.symm; omega)⟩
theorem SameB.of_set {a b L : Nat} {w : World} (hb : b ≤ w.heap.size) (hL : L < a ∨ b ≤ L) (i : Nat) (u : Value) : SameB a b w (w.setCell ⟨L, i, none⟩ u) :=
  .of_grown (grown_set w L i u) hb (fun k e => by injection e with e; omega)
theorem SameB.of_alloc {a b : Nat} {w : World} (hb : b ≤ w.heap.size) (o : Obj) : SameB a b w (w.alloc o) := .of_grown (grown_alloc w o none) hb (fun k e => by cases e)
theorem SameB.cell {a b L i : Nat} {w w2 : World} (h : SameB a b w w2) (h1 : a ≤ L) (h2 : L < b) : w2.cell? ⟨L, i, none⟩ = w.cell? ⟨L, i, none⟩ := World.cell?_of_block (h.blk L h1 h2)
/-- A datum that stays as long as these blocks stay. -/
def ElH {α : Type} (P : CellP α) (a b : Nat) (w : World) (cs : List Value) (x : α) : Prop := ∀ w2 B, SameB a b w w2 → b ≤ B → P B w2 cs x
/-- A row that stays as long as these blocks stay. -/
def RowH {α : Type} (sz : Nat) (P : CellP α) (a b : Nat) (w : World) (v : Value) (xs : List α) : Prop := ∀ w2 B, SameB a b w w2 → b ≤ B → RowV sz P B w2 v xs
theorem RowH.kept {α : Type} {sz a b : Nat} {P : CellP α} {w w2 : World} {v : Value} {xs : List α} (h : RowH sz P a b w v xs) (hs : SameB a b w w2) : RowH sz P a b w2 v xs := fun w3 B h1 h2 => h w3 B (hs.trans h1) h2
theorem RowH.widen {α : Type} {sz a b a2 b2 : Nat} {P : CellP α} {w : World} {v : Value} {xs : List α} (h : RowH sz P a b w v xs) (ha : a2 ≤ a) (hb : b ≤ b2) : RowH sz P a2 b2 w v xs :=
  fun w3 B h1 h2 => h w3 B (h1.narrow ha hb) (Nat.le_trans hb h2)
theorem RowH.row {α : Type} {sz a b : Nat} {P : CellP α} {w : World} {v : Value} {xs : List α} (h : RowH sz P a b w v xs) (hb : b ≤ w.heap.size) : RowV sz P w.heap.size w v xs := h w _ (.refl hb) hb
theorem rowH_nil {α : Type} {sz a b : Nat} {P : CellP α} {w : World} : RowH sz P a b w (.slice none 0 0) [] := fun _ _ _ _ => row_nil _ _ _ _
theorem rowH_lit {α : Type} {P : CellP α} {sz a b : Nat} {w : World} {R n cap : Nat} (ps : List (List Value × α)) (hsz : ∀ q ∈ ps, q.1.length = sz) (ha : a ≤ R) (hb : R < b) (hn : n = ps.length) (hcap : n ≤ cap) (hm : cap ≤ maxLen)
    (hc : ∀ j (h : j < (ps.flatMap Prod.fst).length), w.cell? ⟨R, j, none⟩ = some ((ps.flatMap Prod.fst)[j]'h)) (hP : ∀ q ∈ ps, ElH P a b w q.1 q.2) : RowH sz P a b w (.slice (some ⟨R, 0, none⟩) n cap) (ps.map Prod.snd) :=
  fun w2 B h1 h2 => rowV_lit ps hsz (Nat.lt_of_lt_of_le hb h2) hn hcap hm (fun j h => (h1.cell ha hb).trans (hc j h)) (fun q hq => hP q hq w2 B h1 h2)
theorem rowH_of_own {α : Type} {P : CellP α} {enc : α → List Value} {sz base a b : Nat} {e : TypeId} {w : World} {v : Value} {xs : List α} (hsz : ∀ x, (enc x).length = sz) (ha : a ≤ base) (hb : w.heap.size ≤ b)
    (hP : ∀ x ∈ xs, ElH P a b w (enc x) x) (h : w.ownsRow base e sz v xs.length (flat enc xs)) : RowH sz P a b w v xs := by
  intro w2 B h1 h2
  rcases h.2 with ⟨rfl, h0⟩ | ⟨g, cap, cur, rfl, hg, hh, hn, hc, hcs, htake⟩
  · exact ⟨none, 0, 0, rfl, Lib.hid h0.symm, Nat.le_refl _, Nat.zero_le _, .inl (List.eq_nil_of_length_eq_zero h0)⟩
  · have hgl : g < w.heap.size := by
      rcases Nat.lt_or_ge g w.heap.size with h | h
      · exact h
      · rw [Array.getElem?_eq_none h] at hh; cases hh
    refine ⟨_, _, cap, rfl, Lib.hid rfl, hn, hc, .inr ⟨g, 0, rfl, fun i x hx => ⟨by omega, enc x, fun j hj => ?_, hP x (List.mem_of_getElem? hx) w2 B h1 h2⟩⟩⟩
    rw [hsz] at hj
    have hi : i < xs.length := (List.getElem?_eq_some_iff.1 hx).1
    have hlt : i * sz + j < xs.length * sz := by
      have : (i + 1) * sz ≤ xs.length * sz := Nat.mul_le_mul_right _ hi
      rw [Nat.add_mul] at this
      omega
    have hcell := World.ownsRow.cellAt h (i * sz + j) hlt
    rw [Nat.zero_add, h1.cell (by omega) (by omega), hcell]
    have := flat_get hsz xs i j x hx hj
    exact this.trans (List.getElem?_eq_getElem _)
end Go.Proofs.YtldgjahpmlafgaaGreat
