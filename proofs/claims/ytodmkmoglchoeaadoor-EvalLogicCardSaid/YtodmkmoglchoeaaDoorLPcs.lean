/- matchguardcase: Pieces. -/
import Derived.Test.YtodmkmoglchoeaaDoorSCodes
import Derived.Test.YtodmkmoglchoeaaDoorJLScan
namespace Go.Proofs.YtodmkmoglchoeaaDoor
open Go.RowKit

def pcL : List ByteArray := [⟨#[97]⟩, ⟨#[98]⟩, ⟨#[100]⟩, ⟨#[101, 58, 58, 109, 97, 115, 107]⟩, ⟨#[112, 114, 105, 111, 114, 105, 116, 121]⟩, ⟨#[116, 114, 117, 101]⟩, ⟨#[48]⟩, ⟨#[49, 55]⟩, ⟨#[48, 120, 49, 102]⟩, ⟨#[48, 120, 103]⟩, ⟨#[57, 97]⟩, ⟨#[95, 97]⟩, ⟨#[38]⟩, ⟨#[40]⟩, ⟨#[41]⟩, ⟨#[33]⟩, ⟨#[38, 38]⟩, ⟨#[124, 124]⟩, ⟨#[45, 62]⟩, ⟨#[61, 61]⟩, ⟨#[33, 61]⟩, ⟨#[60]⟩, ⟨#[60, 61]⟩, ⟨#[62]⟩, ⟨#[62, 61]⟩, ⟨#[43]⟩, ⟨#[45]⟩, ⟨#[58, 58]⟩, ⟨#[32]⟩, ⟨#[32, 32]⟩, ⟨#[120, 49, 95, 121]⟩, ⟨#[58]⟩]
def pcK (i : Nat) : ByteArray := pcL.getD i ⟨#[]⟩
def pcA : Array Value := #[.string ⟨#[97]⟩, .string ⟨#[98]⟩, .string ⟨#[100]⟩, .string ⟨#[101, 58, 58, 109, 97, 115, 107]⟩, .string ⟨#[112, 114, 105, 111, 114, 105, 116, 121]⟩, .string ⟨#[116, 114, 117, 101]⟩, .string ⟨#[48]⟩, .string ⟨#[49, 55]⟩, .string ⟨#[48, 120, 49, 102]⟩, .string ⟨#[48, 120, 103]⟩, .string ⟨#[57, 97]⟩, .string ⟨#[95, 97]⟩, .string ⟨#[38]⟩, .string ⟨#[40]⟩, .string ⟨#[41]⟩, .string ⟨#[33]⟩, .string ⟨#[38, 38]⟩, .string ⟨#[124, 124]⟩, .string ⟨#[45, 62]⟩, .string ⟨#[61, 61]⟩, .string ⟨#[33, 61]⟩, .string ⟨#[60]⟩, .string ⟨#[60, 61]⟩, .string ⟨#[62]⟩, .string ⟨#[62, 61]⟩, .string ⟨#[43]⟩, .string ⟨#[45]⟩, .string ⟨#[58, 58]⟩, .string ⟨#[32]⟩, .string ⟨#[32, 32]⟩, .string ⟨#[120, 49, 95, 121]⟩, .string ⟨#[58]⟩]
theorem pcA_lit : pcA = #[.string ⟨#[97]⟩, .string ⟨#[98]⟩, .string ⟨#[100]⟩, .string ⟨#[101, 58, 58, 109, 97, 115, 107]⟩, .string ⟨#[112, 114, 105, 111, 114, 105, 116, 121]⟩, .string ⟨#[116, 114, 117, 101]⟩, .string ⟨#[48]⟩, .string ⟨#[49, 55]⟩, .string ⟨#[48, 120, 49, 102]⟩, .string ⟨#[48, 120, 103]⟩, .string ⟨#[57, 97]⟩, .string ⟨#[95, 97]⟩, .string ⟨#[38]⟩, .string ⟨#[40]⟩, .string ⟨#[41]⟩, .string ⟨#[33]⟩, .string ⟨#[38, 38]⟩, .string ⟨#[124, 124]⟩, .string ⟨#[45, 62]⟩, .string ⟨#[61, 61]⟩, .string ⟨#[33, 61]⟩, .string ⟨#[60]⟩, .string ⟨#[60, 61]⟩, .string ⟨#[62]⟩, .string ⟨#[62, 61]⟩, .string ⟨#[43]⟩, .string ⟨#[45]⟩, .string ⟨#[58, 58]⟩, .string ⟨#[32]⟩, .string ⟨#[32, 32]⟩, .string ⟨#[120, 49, 95, 121]⟩, .string ⟨#[58]⟩] := rfl
theorem pc_at : ∀ i, i < 32 → pcA[i]? = some (.string (pcK i)) := by
  intro i hi
  have h : i = 0 ∨ i = 1 ∨ i = 2 ∨ i = 3 ∨ i = 4 ∨ i = 5 ∨ i = 6 ∨ i = 7 ∨ i = 8 ∨ i = 9 ∨ i = 10 ∨ i = 11 ∨ i = 12 ∨ i = 13 ∨ i = 14 ∨ i = 15 ∨ i = 16 ∨ i = 17 ∨ i = 18 ∨ i = 19 ∨ i = 20 ∨ i = 21 ∨ i = 22 ∨ i = 23 ∨ i = 24 ∨ i = 25 ∨ i = 26 ∨ i = 27 ∨ i = 28 ∨ i = 29 ∨ i = 30 ∨ i = 31 := by omega
  rcases h with rfl | rfl | rfl | rfl | rfl | rfl | rfl | rfl | rfl | rfl | rfl | rfl | rfl | rfl | rfl | rfl | rfl | rfl | rfl | rfl | rfl | rfl | rfl | rfl | rfl | rfl | rfl | rfl | rfl | rfl | rfl | rfl <;> rfl
theorem pc_size : ∀ i, i < 32 → 1 ≤ (pcK i).size ∧ (pcK i).size ≤ 8 := by decide
def strS : Value → Nat
  | .string s => s.size
  | _ => 0
theorem size_drewN (w : World) (n : Nat) : (w.drewN n).heap.size = w.heap.size := by
  induction n with
  | zero => rfl
  | succ n ih => exact ih
theorem below_drewN {B : Nat} {w w' : World} (h : Below B w w') (n : Nat) : Below B w (w'.drewN n) := by
  induction n with
  | zero => exact h
  | succ n ih => exact ih.drew
/-- what Pieces hands back -/
def RetPc (B : Nat) (w : World) (e : Ending) (w' : World) : Prop := ∃ s : ByteArray, s.size ≤ 320 ∧ e = .returned (.string s) ∧ Below B w w'
end Go.Proofs.YtodmkmoglchoeaaDoor
