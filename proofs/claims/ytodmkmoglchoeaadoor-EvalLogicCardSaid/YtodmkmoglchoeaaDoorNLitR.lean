/- matchguardref05: digit and Literal. -/
import Derived.Test.YtodmkmoglchoeaaDoorJNRef
import Derived.Test.YtodmkmoglchoeaaDoorNLit
namespace Go.Proofs.YtodmkmoglchoeaaDoor
open Go.RowKit

theorem dgN_lt (c : Nat) : dgN c ≤ 99 := by unfold dgN; split <;> (try split) <;> omega
/-- a literal's Int and whether it is one -/
def RetFB (z : Int) (b : Bool) (w : World) (e : Ending) (w' : World) : Prop := ∃ s A n c, e = .returned (.tuple #[.agg #[.bool s, .slice A n c], .bool b]) ∧ IntS w' s A n c z ∧ Below w.heap.size w w'
/-- the state of Literal between its rounds -/
structure LitAt (w : World) (P : Nat) (a : Int) (w' : World) : Prop where
  res : ResAt w w' w.heap.size
  np : w.heap.size < P
  box : ∃ s A n c, BoxI w' P s A n c a
/-- .. within one -/
structure LitR (w : World) (P Q : Nat) (s : Bool) (A : Option Addr) (n c : Nat) (z : Int) (w' : World) : Prop where
  res : ResAt w w' w.heap.size
  np : w.heap.size < P
  pq : P < Q
  bq : BoxI w' Q s A n c z
theorem LitR.drew {w w1 : World} {P Q : Nat} {s : Bool} {A : Option Addr} {n c : Nat} {z : Int} (h : LitR w P Q s A n c z w1) : LitR w P Q s A n c z w1.drew := ⟨h.res.drew, h.np, h.pq, h.bq.drew⟩
theorem LitR.call {w w1 w2 : World} {P Q : Nat} {s : Bool} {A : Option Addr} {n c : Nat} {z : Int} (h : LitR w P Q s A n c z w1) (hb : Below w1.heap.size w1 w2) : LitR w P Q s A n c z w2 := ⟨h.res.call hb, h.np, h.pq, h.bq.call hb⟩
theorem BoxI.farS {w : World} {P Q : Nat} {s : Bool} {A : Option Addr} {n c : Nat} {z : Int} (h : BoxI w Q s A n c z) (hne : P ≠ Q) {x : Bool} (c0 : w.cell? ⟨P, 0, none⟩ = some (.bool x)) (y : Bool) (v : Value) : BoxI ((w.setCell ⟨P, 0, none⟩ (.bool y)).setCell ⟨P, 1, none⟩ v) Q s A n c z :=
  ⟨by rw [World.cell?_setCell_far _ _ _ _ hne, World.cell?_setCell_far _ _ _ _ hne]; exact h.c0, by rw [World.cell?_setCell_far _ _ _ _ hne, World.cell?_setCell_far _ _ _ _ hne]; exact h.c1, by rw [World.frozen?_setCell, World.frozen?_setCell]; exact h.f0, by rw [World.frozen?_setCell, World.frozen?_setCell]; exact h.f1, h.v.store c0 _ _⟩
theorem LitR.set {w w1 : World} {P Q : Nat} {s : Bool} {A : Option Addr} {n c : Nat} {z : Int} (h : LitR w P Q s A n c z w1) {x : Bool} (c0 : w1.cell? ⟨P, 0, none⟩ = some (.bool x)) (y : Bool) (v : Value) : LitR w P Q s A n c z ((w1.setCell ⟨P, 0, none⟩ (.bool y)).setCell ⟨P, 1, none⟩ v) :=
  ⟨h.res.set (by have := h.np; omega) (by have := h.np; omega) _ _, h.np, h.pq, h.bq.farS (by have := h.pq; omega) c0 _ _⟩
theorem LitR.all {w w' : World} {P Q : Nat} {s : Bool} {A : Option Addr} {n c : Nat} {z : Int} (h : LitR w P Q s A n c z w') : LitR w P Q s A n c z w' ∧ w'.cell? ⟨Q, 0, none⟩ = some (.bool s) ∧ w'.cell? ⟨Q, 1, none⟩ = some (.slice A n c) := ⟨h, h.bq.c0, h.bq.c1⟩

theorem toList_nil (t : ByteArray) : (t.toList == []) = !(decide (0 < t.size)) := by
  by_cases h : 0 < t.size
  · rw [decide_eq_true h, Bool.not_true, beq_eq_false_iff_ne]
    intro h2
    have : t.toList.length = t.size := by rw [ByteArray.toList_eq]; simp
    rw [h2] at this; simp only [List.length_nil] at this; omega
  · rw [decide_eq_false h, Bool.not_false, beq_iff_eq]
    have : t.toList.length = t.size := by rw [ByteArray.toList_eq]; simp
    exact List.eq_nil_of_length_eq_zero (by omega)

theorem x0_list : x0.toList = [48, 120] := by rw [ByteArray.toList_eq]; rfl
theorem ext_all (s : ByteArray) : (s.extract 2 s.size).size = s.size - 2 := by rw [ByteArray.size_extract]; omega
end Go.Proofs.YtodmkmoglchoeaaDoor
