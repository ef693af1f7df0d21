/- What comes in: values opened as numbers. -/
import Derived.Test.YtodmkmoglchoeaaGreatDoorPure
import Derived.ProofKit
import Derived.Lib.SmallJoins
import Derived.Below
import Derived.ChangeOld
namespace Go.Proofs.YtodmkmoglchoeaaGreatDoor
open Go.ChangeShapes Go.WideShapes Go.ChangeAt Go.RowKit Go.Joins

set_option maxRecDepth 100000 in
theorem own : ownKnob Tryz.prog.godebug = none := by kernel_rfl
set_option maxRecDepth 100000 in
theorem laidOut : laidOutB Tryz.prog = true := by kernel_rfl
set_option maxRecDepth 100000 in
theorem cells_val : Tryz.prog.cellsOf 103 = 2 := by kernel_rfl
set_option maxRecDepth 100000 in
theorem u64_of_wf {x : Int} (h : (Lit.int .u64 x).wf = true) : 0 ≤ x ∧ x < 18446744073709551616 := by
  simp [Lit.wf, IntKind.min, IntKind.max, IntKind.signed, IntKind.bits] at h
  omega
set_option maxRecDepth 100000 in
theorem hi_of (x y : Int) (hx : 0 ≤ x ∧ x < 18446744073709551616) (hy : 0 ≤ y ∧ y < 18446744073709551616) : hi (x.toNat * 18446744073709551616 + y.toNat) = x ∧ lo (x.toNat * 18446744073709551616 + y.toNat) = y ∧ x.toNat * 18446744073709551616 + y.toNat < 2 ^ 128 := by
  unfold hi lo
  omega
section
variable {H : Type} {enc : TypeId × Value → H} {w : World} {base b0 : Nat} {spare : Nat → Bool} {held : Bool} {v : Value} {d : DataW H} {p : List MemPlace}
end
end Go.Proofs.YtodmkmoglchoeaaGreatDoor
