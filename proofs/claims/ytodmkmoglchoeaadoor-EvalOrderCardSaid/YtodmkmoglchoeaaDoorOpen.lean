/- What comes in: values opened as numbers. -/
import Derived.Test.YtodmkmoglchoeaaDoorPure
import Derived.ProofKit
import Derived.Lib.SmallJoins
import Derived.Below
import Derived.ChangeOld
namespace Go.Proofs.YtodmkmoglchoeaaDoor
open Go.ChangeShapes Go.WideShapes Go.ChangeAt Go.RowKit Go.Joins

set_option maxRecDepth 100000 in
theorem own : ownKnob Tryd.prog.godebug = none := by kernel_rfl
set_option maxRecDepth 100000 in
theorem laidOut : laidOutB Tryd.prog = true := by kernel_rfl
set_option maxRecDepth 100000 in
theorem cells_val : Tryd.prog.cellsOf 102 = 2 := by kernel_rfl
set_option maxRecDepth 100000 in
theorem u64_of_wf {x : Int} (h : (Lit.int .u64 x).wf = true) : 0 ≤ x ∧ x < 18446744073709551616 := by
  simp [Lit.wf, IntKind.min, IntKind.max, IntKind.signed, IntKind.bits] at h
  omega
set_option maxRecDepth 100000 in
theorem i64_of_wf {x : Int} (h : (Lit.int .i64 x).wf = true) : -9223372036854775808 ≤ x ∧ x ≤ 9223372036854775807 := by
  simp [Lit.wf, IntKind.min, IntKind.max, IntKind.signed, IntKind.bits] at h
  omega
set_option maxRecDepth 100000 in
theorem hi_of (x y : Int) (hx : 0 ≤ x ∧ x < 18446744073709551616) (hy : 0 ≤ y ∧ y < 18446744073709551616) : hi (x.toNat * 18446744073709551616 + y.toNat) = x ∧ lo (x.toNat * 18446744073709551616 + y.toNat) = y ∧ x.toNat * 18446744073709551616 + y.toNat < 2 ^ 128 := by
  unfold hi lo
  omega
section
variable {H : Type} {enc : TypeId × Value → H} {w : World} {base b0 : Nat} {spare : Nat → Bool} {held : Bool} {v : Value} {d : DataW H} {p : List MemPlace}
set_option maxRecDepth 100000 in
theorem open_val (hv : Value.okWide Tryd.prog w .any b0 102 v) (h : DataW.Trod enc Tryd.prog w base spare held 102 v d p) : ∃ n : Nat, n < 2 ^ 128 ∧ v = .agg #[.int .u64 (hi n), .int .u64 (lo n)] := by
  obtain ⟨c0, c1, y0, y1, m, rfl, rfl, rfl, hy0, hy1⟩ := open_agg2 Tryd.underlying102 (by kernel_rfl) cells_val hv h
  obtain ⟨x, e0, rfl, wx⟩ := DataW.trod_int Tryd.underlying100 hy0
  obtain ⟨y, e1, rfl, wy⟩ := DataW.trod_int Tryd.underlying100 hy1
  simp at e0 e1
  subst e0 e1
  obtain ⟨h1, h2, h3⟩ := hi_of x y (u64_of_wf wx) (u64_of_wf wy)
  exact ⟨_, h3, by rw [h1, h2]⟩
end
end Go.Proofs.YtodmkmoglchoeaaDoor
