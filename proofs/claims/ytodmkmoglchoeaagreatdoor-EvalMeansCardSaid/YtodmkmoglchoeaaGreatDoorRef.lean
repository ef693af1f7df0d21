/- matchguardref01.And, Or, Xor: what they return. -/
import Derived.Test.YtodmkmoglchoeaaGreatDoorJBits
import Derived.Deep.DeepCutAuto
namespace Go.Proofs.YtodmkmoglchoeaaGreatDoor
open Go.RowKit

/-- Two arrays of bits have been made, in blocks x and y. -/
structure TwoAt (w : World) (f g : Nat → Bool) (x y : Nat) (w' : World) : Prop where
  below : Below w.heap.size w w'
  nx : w.heap.size + 3 ≤ x
  ny : w.heap.size + 3 ≤ y
  ne : x ≠ y
  arrx : BitsAt w' x f
  arry : BitsAt w' y g
  r0 : w'.cell? ⟨w.heap.size + 2, 0, none⟩ = some (.int .u64 0)
  r1 : w'.cell? ⟨w.heap.size + 2, 1, none⟩ = some (.int .u64 0)
  q0 : w'.frozen? ⟨w.heap.size + 2, 0, none⟩ = false
  q1 : w'.frozen? ⟨w.heap.size + 2, 1, none⟩ = false
theorem TwoAt.put {w : World} {f f' g : Nat → Bool} {x y : Nat} {W : World} (h : TwoAt w f g x y W) (k : Nat) (hk : k < 128) (v : Bool) (hg : ∀ i, i < 128 → f' i = if i = k then v else f i) : TwoAt w f' g x y (W.setCell ⟨x, k, none⟩ (.bool v)) where
  below := h.below.setCell (by have := h.nx; simp; omega) _
  nx := h.nx
  ny := h.ny
  ne := h.ne
  arrx := h.arrx.put k hk v hg
  arry := h.arry.far _ h.ne _
  r0 := by rw [World.cell?_setCell_far _ _ _ _ (by have := h.nx; simp; omega)]; exact h.r0
  r1 := by rw [World.cell?_setCell_far _ _ _ _ (by have := h.nx; simp; omega)]; exact h.r1
  q0 := by rw [World.frozen?_setCell]; exact h.q0
  q1 := by rw [World.frozen?_setCell]; exact h.q1
theorem TwoAt.congr {w : World} {f f' g : Nat → Bool} {x y : Nat} {W : World} (h : TwoAt w f g x y W) (hf : ∀ i, i < 128 → f i = f' i) : TwoAt w f' g x y W :=
  { h with arrx := h.arrx.congr hf }
theorem TwoAt.drew {w : World} {f g : Nat → Bool} {x y : Nat} {W : World} (h : TwoAt w f g x y W) : TwoAt w f g x y W.drew :=
  ⟨h.below.drew, h.nx, h.ny, h.ne, h.arrx.drew, h.arry.drew, h.r0, h.r1, h.q0, h.q1⟩
end Go.Proofs.YtodmkmoglchoeaaGreatDoor
