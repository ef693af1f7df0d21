/- The reader's methods of package wire: what they return. -/
import Derived.Test.YtkennilcojbbgaaJRead
namespace Go.Proofs.Ytkennilcojbbgaa
open Go.RowKit

/-- A method returns val; behind it l' is left and e' the first error. -/
def Meth (R D : Nat) (val : Value) (l' : List Nat) (e' : Int) (w : World) (en : Ending) (w' : World) : Prop := en = .returned val ∧ w.grownBy w' (some R) ∧ ∃ A' n' cap', RdAt w' R D l' e' A' n' cap'
/-- The same, and val holds the bytes x. -/
def MethB (R D : Nat) (x l' : List Nat) (e' : Int) (w : World) (en : Ending) (w' : World) : Prop := ∃ val, NewL w x val w' ∧ Meth R D val l' e' w en w'
set_option maxRecDepth 100000 in
theorem make_func (fn : Fn) (first cap : Array Value) (w : World) : (Instr.makeFunc fn first cap).run Try.prog w = .ok (.func fn first cap) w := rfl
section
variable (R D : Nat) (l : List Nat) (A : Option Addr) (n cap : Nat) (w : World)
set_option maxRecDepth 100000 in
theorem two_kept {w w1 : World} {R : Nat} (hR : R < w.heap.size) {o1 o2 : Array Value} {t1 t2 : TypeId} (hg : ((w.alloc (.cells o1 t1)).alloc (.cells o2 t2)).grownBy w1 (some R)) :
    (∀ i, w1.cell? ⟨w.heap.size, i, none⟩ = o1[i]?) ∧ (∀ i, w1.frozen? ⟨w.heap.size, i, none⟩ = false) ∧ (∀ i, w1.cell? ⟨w.heap.size + 1, i, none⟩ = o2[i]?) ∧ (∀ i, w1.frozen? ⟨w.heap.size + 1, i, none⟩ = false) ∧ w.heap.size + 1 < w1.heap.size := by
  have hs := hg.size
  simp only [World.size_alloc] at hs
  refine ⟨fun i => ?_, fun i => ?_, fun i => ?_, fun i => ?_, by omega⟩
  · rw [cell_kept hg (by simp only [World.size_alloc]; omega) (by simp; omega), World.cell?_alloc_past _ _ _ (by simp), World.cell?_alloc_new]
  · rw [frozen_kept hg (by simp only [World.size_alloc]; omega) (by simp; omega), World.frozen?_alloc_past _ _ _ (by simp), World.frozen?_alloc_new]
  · rw [cell_kept hg (by simp only [World.size_alloc]; omega) (by simp; omega)]
    have := World.cell?_alloc_new (w.alloc (.cells o1 t1)) o2 t2 i
    rwa [World.size_alloc] at this
  · rw [frozen_kept hg (by simp only [World.size_alloc]; omega) (by simp; omega)]
    have := World.frozen?_alloc_new (w.alloc (.cells o1 t1)) o2 t2 i
    rwa [World.size_alloc] at this
set_option maxRecDepth 100000 in
theorem one_kept {w w1 : World} {row : Option Nat} {o1 : Array Value} {t1 : TypeId} (hr : row ≠ some w.heap.size) (hg : (w.alloc (.cells o1 t1)).grownBy w1 row) :
    (∀ i, w1.cell? ⟨w.heap.size, i, none⟩ = o1[i]?) ∧ (∀ i, w1.frozen? ⟨w.heap.size, i, none⟩ = false) ∧ w.heap.size < w1.heap.size := by
  have hs := hg.size
  simp only [World.size_alloc] at hs
  refine ⟨fun i => ?_, fun i => ?_, by omega⟩
  · rw [cell_kept hg (by simp only [World.size_alloc]; omega) (Ne.symm hr), World.cell?_alloc_new]
  · rw [frozen_kept hg (by simp only [World.size_alloc]; omega) (Ne.symm hr), World.frozen?_alloc_new]
end
end Go.Proofs.Ytkennilcojbbgaa
