/- SyntaxLimits, pure: the three texts. -/
import Derived.Test.YtoiofbpmgihkfaaDoorJYLaw
namespace Go.Proofs.YtoiofbpmgihkfaaDoor
open Go.RowKit

def wideN : Nat → ByteArray
  | 0 => ⟨#[97]⟩
  | k + 1 => wideN k ++ ⟨#[43, 98]⟩
def deepN : Nat → ByteArray
  | 0 => ⟨#[97]⟩
  | k + 1 => ⟨#[33]⟩ ++ deepN k
def rightN : Nat → ByteArray
  | 0 => ⟨#[97]⟩
  | k + 1 => rightN k ++ ⟨#[45, 62, 97]⟩
theorem wide_size : ∀ k, (wideN k).size = 1 + 2 * k
  | 0 => rfl
  | k + 1 => by rw [wideN, ByteArray.size_append, wide_size k, show (⟨#[43, 98]⟩ : ByteArray).size = 2 from rfl]; omega
theorem deep_size : ∀ k, (deepN k).size = 1 + k
  | 0 => rfl
  | k + 1 => by rw [deepN, ByteArray.size_append, deep_size k, show (⟨#[33]⟩ : ByteArray).size = 1 from rfl]; omega
theorem right_size : ∀ k, (rightN k).size = 1 + 3 * k
  | 0 => rfl
  | k + 1 => by rw [rightN, ByteArray.size_append, right_size k, show (⟨#[45, 62, 97]⟩ : ByteArray).size = 3 from rfl]; omega
set_option maxRecDepth 1000000 in
theorem deep_ok : ((List.range 5).all fun n => pOk (deepN (10 + n)) == decide (n ≤ 2)) = true := by kernel_rfl
set_option maxRecDepth 1000000 in
theorem wide_ok0 : pOk (wideN 57) = true := by kernel_rfl
set_option maxRecDepth 1000000 in
theorem wide_ok1 : pOk (wideN 58) = true := by kernel_rfl
set_option maxRecDepth 1000000 in
theorem wide_ok2 : pOk (wideN 59) = true := by kernel_rfl
set_option maxRecDepth 1000000 in
theorem wide_ok3 : pOk (wideN 60) = false := by kernel_rfl
set_option maxRecDepth 1000000 in
theorem wide_ok4 : pOk (wideN 61) = false := by kernel_rfl
theorem deep_is (n : Nat) (h : n < 5) : pOk (deepN (10 + n)) = decide (n ≤ 2) := by
  have := List.all_eq_true.1 deep_ok n (List.mem_range.2 h)
  simpa using this
theorem wide_is (n : Nat) (h : n < 5) : pOk (wideN (57 + n)) = decide (n ≤ 2) := by
  have h5 : n = 0 ∨ n = 1 ∨ n = 2 ∨ n = 3 ∨ n = 4 := by omega
  rcases h5 with rfl | rfl | rfl | rfl | rfl
  · exact wide_ok0
  · exact wide_ok1
  · exact wide_ok2
  · exact wide_ok3
  · exact wide_ok4
end Go.Proofs.YtoiofbpmgihkfaaDoor
