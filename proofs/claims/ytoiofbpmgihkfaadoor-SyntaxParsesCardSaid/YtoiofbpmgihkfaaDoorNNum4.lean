/- Package number: Neg, top, negative, isValue, and the standard library's comparison. -/
import Derived.Test.YtoiofbpmgihkfaaDoorNNum3
namespace Go.Proofs.YtoiofbpmgihkfaaDoor
open Go.RowKit

/-- the highest word with the sign -/
def tp (z : Int) : Int := z / pw 5
theorem tp_b (z : Int) (h : Rg z) : -2147483648 ≤ tp z ∧ tp z < 2147483648 := by
  have h5 : pw 5 = 1461501637330902918203684832716283019655932542976 := rfl
  unfold Rg at h; unfold tp; rw [h5]; omega
theorem tp_wrap (z : Int) (h : Rg z) : wrap32 (wd z 5) = tp z := by
  have hb := tp_b z h
  have e : wd z 5 = tp z % 4294967296 := rfl
  rw [e]
  unfold wrap32
  omega
/-- the sign of a difference -/
def sgn (a b : Int) : Int := if a = b then 0 else if a < b then -1 else 1
end Go.Proofs.YtoiofbpmgihkfaaDoor
