/- The law ValueRings: its walk. -/
import Derived.Test.YtodmkmoglchoeaaGreatDoorJParse
namespace Go.Proofs.YtodmkmoglchoeaaGreatDoor
open Go.RowKit

/-- The sum and the difference of a number of bits. -/
def vadd (k : Int) (a b : Nat) : Nat := (a + b) % 2 ^ cl k
set_option maxRecDepth 100000 in
theorem vadd_lt (k : Int) (a b : Nat) : vadd k a b < 2 ^ 128 :=
  Nat.lt_of_lt_of_le (Nat.mod_lt _ (Nat.two_pow_pos _)) (Nat.pow_le_pow_right (by decide) (cl_le k))
end Go.Proofs.YtodmkmoglchoeaaGreatDoor
