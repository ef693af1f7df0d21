/- Rows of n cells: how they are made, read whole and stored whole. -/
import Derived.Test.YthfimcbjbkbcjaaVal4
import Derived.Laws.IdiomCopy
import Derived.Deep.MidRow
import Derived.Deep.WholeRow
namespace Go.Proofs.Ythfimcbjbkbcjaa
open Go.RowKit

def rowL (n : Nat) (f : Nat → Value) : List Value := (List.range n).map f
def rowA (n : Nat) (f : Nat → Value) : Array Value := (rowL n f).toArray
theorem rowL_len (n : Nat) (f : Nat → Value) : (rowL n f).length = n := by simp [rowL]
theorem rowA_size (n : Nat) (f : Nat → Value) : (rowA n f).size = n := by simp [rowA, rowL]
theorem rowA_get (n : Nat) (f : Nat → Value) (i : Nat) (h : i < n) : (rowA n f)[i]? = some (f i) := by
  simp [rowA, rowL, h]
theorem rowL_get (n : Nat) (f : Nat → Value) (i : Nat) (h : i < n) : (rowL n f)[i]? = some (f i) := by
  simp [rowL, h]
theorem rowL_one {n : Nat} {f : Nat → Value} (h : ∀ i, i < n → (f i).oneCell' = true) : ∀ v ∈ rowL n f, v.oneCell' = true := fun v hv => by
  obtain ⟨i, hi, rfl⟩ := List.mem_map.1 hv
  exact h i (List.mem_range.1 hi)
theorem rowL_congr {n : Nat} {f g : Nat → Value} (h : ∀ i, i < n → f i = g i) : rowL n f = rowL n g := by
  unfold rowL
  apply List.map_congr_left
  intro i hi
  exact h i (List.mem_range.1 hi)
theorem rowA_congr {n : Nat} {f g : Nat → Value} (h : ∀ i, i < n → f i = g i) : rowA n f = rowA n g := by
  unfold rowA; rw [rowL_congr h]

/-- The n cells f lie in block b, and may be written. -/
structure RowAt (w : World) (b n : Nat) (f : Nat → Value) : Prop where
  cell : ∀ i, i < n → w.cell? ⟨b, i, none⟩ = some (f i)
  froz : ∀ i, i < n → w.frozen? ⟨b, i, none⟩ = false
section
variable {w w' : World} {b n : Nat} {f g : Nat → Value}
theorem RowAt.range (h : RowAt w b n f) : w.rangeAt b 0 (rowL n f) := fun j v hv => by
  have hj : j < n := by have := (List.getElem?_eq_some_iff.1 hv).1; rwa [rowL_len] at this
  rw [rowL_get n f j hj] at hv
  rw [Nat.zero_add, h.cell j hj, hv]
theorem RowAt.there (h : RowAt w b n f) : w.there b 0 n := fun j hj => by
  rw [Nat.zero_add, h.cell j hj, h.froz j hj]; exact ⟨rfl, rfl⟩
theorem RowAt.new (w : World) (n : Nat) (f : Nat → Value) (t : TypeId) : RowAt (w.alloc (.cells (rowA n f) t)) w.heap.size n f :=
  ⟨fun i h => by rw [World.cell?_alloc_new]; exact rowA_get n f i h, fun i _ => World.frozen?_alloc_new _ _ _ _⟩
theorem RowAt.past (h : RowAt w b n f) (hb : b < w.heap.size) (o : Obj) : RowAt (w.alloc o) b n f :=
  ⟨fun i hi => by rw [World.cell?_alloc_past _ _ _ hb]; exact h.cell i hi, fun i hi => by rw [World.frozen?_alloc_past _ _ _ hb]; exact h.froz i hi⟩
theorem RowAt.drew (h : RowAt w b n f) : RowAt w.drew b n f := ⟨h.cell, h.froz⟩
theorem RowAt.below {B : Nat} (h : RowAt w b n f) (hB : Below B w w') (hb : b < B) : RowAt w' b n f :=
  ⟨fun i hi => by rw [hB.cell (p := ⟨b, i, none⟩) hb]; exact h.cell i hi, fun i hi => by rw [hB.frozen (p := ⟨b, i, none⟩) hb]; exact h.froz i hi⟩
theorem RowAt.far (h : RowAt w b n f) (p : Addr) (hp : p.block ≠ b) (v : Value) : RowAt (w.setCell p v) b n f :=
  ⟨fun i hi => by rw [World.cell?_setCell_far _ _ _ _ hp]; exact h.cell i hi, fun i hi => by rw [World.frozen?_setCell]; exact h.froz i hi⟩
theorem RowAt.put (h : RowAt w b n f) (k : Nat) (hk : k < n) (x : Value) (hg : ∀ i, i < n → g i = if i = k then x else f i) : RowAt (w.setCell ⟨b, k, none⟩ x) b n g :=
  ⟨fun i hi => by
    rw [hg i hi]
    by_cases e : i = k
    · subst e
      rw [if_pos rfl, World.cell?_setCell_same' _ _ _ (by rw [h.cell i hi]; rfl)]
    · rw [if_neg e, World.cell?_setCell_other _ _ _ _ (by intro e'; injection e' with _ e2; exact e e2.symm), h.cell i hi],
   fun i hi => by rw [World.frozen?_setCell]; exact h.froz i hi⟩
theorem RowAt.congr (h : RowAt w b n f) (hg : ∀ i, i < n → f i = g i) : RowAt w b n g :=
  ⟨fun i hi => by rw [← hg i hi]; exact h.cell i hi, h.froz⟩
theorem RowAt.stored (h : w.there b 0 n) (g : Nat → Value) : RowAt (w.setCells b 0 (rowL n g)) b n g :=
  ⟨fun i hi => by
    have := World.rangeAt_setCells_same w b 0 (rowL n g) (by rw [rowL_len]; exact h) i (g i) (rowL_get n g i hi)
    rwa [Nat.zero_add] at this,
   fun i hi => by rw [World.frozen?_setCells]; have := (h i hi).2; rwa [Nat.zero_add] at this⟩
theorem RowAt.farAll (h : RowAt w b n f) {b' : Nat} (hb : b' ≠ b) (o : Nat) (vs : List Value) : RowAt (w.setCells b' o vs) b n f :=
  ⟨fun i hi => by rw [World.cell?_setCells_out b' vs o w ⟨b, i, none⟩ (fun e => absurd e.symm hb)]; exact h.cell i hi,
   fun i hi => by rw [World.frozen?_setCells]; exact h.froz i hi⟩
end
theorem belowCells {B : Nat} {w0 w : World} (h : Below B w0 w) {b : Nat} (hb : B ≤ b) : ∀ (o : Nat) (vs : List Value), Below B w0 (w.setCells b o vs) := fun o vs => by
  induction vs generalizing o w with
  | nil => exact h
  | cons v vs ih => exact ih (h.setCell (p := ⟨b, o, none⟩) hb v) (o + 1)

/-! arrays of a type t of n one-cell elements -/
section
variable {P : Program} {t : TypeId} {k e : Nat} {n : Nat} {w : World} {b : Nat} {f : Nat → Value}
theorem wpList_load_row (hu : P.underlying t = some (.array k e)) (hi : (P.info? t).map (·.size) = some n)
    {ops : Array Oper} {rest : List Oper} {op : Oper} {a : Act} {Q : Exit → Act → World → Prop} (hgd : op.guard = none) {x : Operand} (ho : op.op = .load t x)
    (hx : a.eval x = .pointer (some ⟨b, 0, none⟩)) (h : RowAt w b n f) (K : wpList P ops Q rest (a.put op.dst (.agg (rowA n f))) w) : wpList P ops Q (op :: rest) a w :=
  wpList_load_mid hgd t x ho b 0 hx (rowL n f) _ h.range hu rfl (by rw [rowL_len]; exact hi) K
theorem wpList_store_row (hi : (P.info? t).map (·.size) = some n) (h1 : ∀ i, i < n → (f i).oneCell' = true)
    {ops : Array Oper} {rest : List Oper} {op : Oper} {a : Act} {Q : Exit → Act → World → Prop} (hgd : op.guard = none) {x y : Operand} (ho : op.op = .store t x y)
    (hx : a.eval x = .pointer (some ⟨b, 0, none⟩)) (hy : a.eval y = .agg (rowA n f)) (h : w.there b 0 n) (K : wpList P ops Q rest (a.put op.dst undef) (w.setCells b 0 (rowL n f))) : wpList P ops Q (op :: rest) a w :=
  wpList_store_mid hgd t x y ho b 0 (rowA n f) hx hy (by rw [rowA_size]; exact h) (by rw [rowA_size]; exact hi) (all_oneCell_toArray (rowL_one h1)) K
theorem wpList_store_new (hi : (P.info? t).map (·.size) = some n) (h1 : ∀ i, i < n → (f i).oneCell' = true) {c : Array Value} (hc : c.size = n)
    {ops : Array Oper} {rest : List Oper} {op : Oper} {a : Act} {Q : Exit → Act → World → Prop} (hgd : op.guard = none) {x y : Operand} (ho : op.op = .store t x y)
    (hx : a.eval x = .pointer (some ⟨w.heap.size, 0, none⟩)) (hy : a.eval y = .agg (rowA n f)) (K : wpList P ops Q rest (a.put op.dst undef) (w.alloc (.cells (rowA n f) t))) : wpList P ops Q (op :: rest) a (w.alloc (.cells c t)) := by
  refine wpList_plain hgd fun _ hK => ?_
  unfold Oper.wp execOp
  have e := run_storeAt_new (P := P) w t c (rowA n f) (by rw [rowA_size]; exact hi) (by rw [rowA_size]; exact hc) (all_oneCell_toArray (rowL_one h1))
  simp only [ho, hx, hy, Sem.run_bind, e, Sem.run_pure, Result.andThen_ok]
  exact hK _ _ K
theorem results_row (hu : P.underlying t = some (.array k e)) (hi : (P.info? t).map (·.size) = some n)
    {fn : Func} {p : Tmp} (hr : fn.results = #[.cell p t]) {tmps : Array Value} (hp : tmps[p]?.getD undef = .pointer (some ⟨b, 0, none⟩)) (h : RowAt w b n f) :
    (results fn tmps).run P w = .ok (.agg (rowA n f)) w := by
  have e := run_loadVar_mid w b 0 t (rowL n f) _ h.range hu rfl (by rw [rowL_len]; exact hi)
  simp only [results, hr]
  simp [hp, asAddr, e, rowA]
end
end Go.Proofs.Ythfimcbjbkbcjaa
