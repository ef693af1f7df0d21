/- matchguardcase: Pieces. -/
import Derived.Test.YtodmkmoglchoeaaGreatDoorSCodes
import Derived.Test.YtodmkmoglchoeaaGreatDoorJLScan
namespace Go.Proofs.YtodmkmoglchoeaaGreatDoor
open Go.RowKit

theorem size_drewN (w : World) (n : Nat) : (w.drewN n).heap.size = w.heap.size := by
  induction n with
  | zero => rfl
  | succ n ih => exact ih
theorem below_drewN {B : Nat} {w w' : World} (h : Below B w w') (n : Nat) : Below B w (w'.drewN n) := by
  induction n with
  | zero => exact h
  | succ n ih => exact ih.drew
end Go.Proofs.YtodmkmoglchoeaaGreatDoor
