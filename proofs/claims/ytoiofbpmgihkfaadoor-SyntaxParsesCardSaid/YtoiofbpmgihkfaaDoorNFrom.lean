/- matchguardref05: From. -/
import Derived.Test.YtoiofbpmgihkfaaDoorNOf
namespace Go.Proofs.YtoiofbpmgihkfaaDoor
open Go.RowKit

theorem ri_of0 (w : World) : Calls Tryd.prog 46 #[.int .i64 0] w (RetF 0 w) := ri_of_pos 0 (by decide) (by decide) w
theorem ri_of1 (w : World) : Calls Tryd.prog 46 #[.int .i64 1] w (RetF 1 w) := ri_of_pos 1 (by decide) (by decide) w
/-- An Int in a box that may be written. -/
structure BoxI (w : World) (P : Nat) (s : Bool) (A : Option Addr) (n c : Nat) (z : Int) : Prop where
  c0 : w.cell? ⟨P, 0, none⟩ = some (.bool s)
  c1 : w.cell? ⟨P, 1, none⟩ = some (.slice A n c)
  f0 : w.frozen? ⟨P, 0, none⟩ = false
  f1 : w.frozen? ⟨P, 1, none⟩ = false
  v : IntS w s A n c z
theorem BoxI.lt {w : World} {P : Nat} {s : Bool} {A : Option Addr} {n c : Nat} {z : Int} (h : BoxI w P s A n c z) : P < w.heap.size := World.block_lt_of_cell? w _ h.c0
theorem BoxI.call {w w' : World} {P : Nat} {s : Bool} {A : Option Addr} {n c : Nat} {z : Int} (h : BoxI w P s A n c z) (hb : Below w.heap.size w w') : BoxI w' P s A n c z :=
  ⟨by rw [hb.cell (p := ⟨P, 0, none⟩) h.lt]; exact h.c0, by rw [hb.cell (p := ⟨P, 1, none⟩) h.lt]; exact h.c1, by rw [hb.frozen (p := ⟨P, 0, none⟩) h.lt]; exact h.f0, by rw [hb.frozen (p := ⟨P, 1, none⟩) h.lt]; exact h.f1, h.v.below hb⟩
theorem BoxI.drew {w : World} {P : Nat} {s : Bool} {A : Option Addr} {n c : Nat} {z : Int} (h : BoxI w P s A n c z) : BoxI w.drew P s A n c z := ⟨h.c0, h.c1, h.f0, h.f1, ⟨h.v.1, h.v.2⟩⟩
/-- another Int is stored into the box -/
theorem BoxI.set {w : World} {P : Nat} {s s' : Bool} {A A' : Option Addr} {n c n' c' : Nat} {z z' : Int} (h : BoxI w P s A n c z) (h' : IntS w s' A' n' c' z') : BoxI ((w.setCell ⟨P, 0, none⟩ (.bool s')).setCell ⟨P, 1, none⟩ (.slice A' n' c')) P s' A' n' c' z' := by
  refine ⟨?_, ?_, ?_, ?_, h'.store h.c0 _ _⟩
  · rw [World.cell?_setCell_other _ _ _ _ (by simp), World.cell?_setCell_same' _ _ _ (by rw [h.c0]; rfl)]
  · rw [World.cell?_setCell_same' _ _ _ (by rw [World.cell?_setCell_other _ _ _ _ (by simp), h.c1]; rfl)]
  · rw [World.frozen?_setCell, World.frozen?_setCell]; exact h.f0
  · rw [World.frozen?_setCell, World.frozen?_setCell]; exact h.f1
theorem BoxI.new {w : World} {s : Bool} {A : Option Addr} {n c : Nat} {z : Int} (h : IntS w s A n c z) : BoxI (w.alloc (.cells #[.bool s, .slice A n c] 70)) w.heap.size s A n c z :=
  ⟨by simp [go_sem], by simp [go_sem], by simp [go_sem], by simp [go_sem], h.alloc _⟩
theorem ResAt.set {w w' : World} {B P : Nat} (h : ResAt w w' B) (hP : P ≠ B) (hw : w.heap.size ≤ P) (v0 v1 : Value) : ResAt w ((w'.setCell ⟨P, 0, none⟩ v0).setCell ⟨P, 1, none⟩ v1) B :=
  ⟨(h.below.setCell (by exact hw) _).setCell (by exact hw) _, h.nb, by rw [World.size_setCell, World.size_setCell]; exact h.lt, by rw [World.cell?_setCell_far _ _ _ _ hP, World.cell?_setCell_far _ _ _ _ hP]; exact h.c0, by rw [World.cell?_setCell_far _ _ _ _ hP, World.cell?_setCell_far _ _ _ _ hP]; exact h.c1, by rw [World.frozen?_setCell, World.frozen?_setCell]; exact h.f0, by rw [World.frozen?_setCell, World.frozen?_setCell]; exact h.f1⟩
/-- From's state behind bit k: the result's block, the bits, the number of the bits from k on -/
structure FrAt (w : World) (v Q P k : Nat) (w' : World) : Prop where
  res : ResAt w w' (w.heap.size + 1)
  bits : BitsAt w' Q v.testBit
  q : w.heap.size + 2 ≤ Q
  qp : Q < P
  box : ∃ s A n c, BoxI w' P s A n c ((v / 2 ^ k : Nat) : Int)
theorem bit_up (v k : Nat) : v / 2 ^ k = v / 2 ^ (k + 1) + v / 2 ^ (k + 1) + (if v.testBit k then 1 else 0) := by
  rw [Nat.pow_succ, ← Nat.div_div_eq_div_mul, Nat.testBit_eq_decide_div_mod_eq]
  by_cases h : v / 2 ^ k % 2 = 1
  · simp only [h, decide_true, if_true]; omega
  · simp only [h, decide_false, Bool.false_eq_true, if_false]; omega
theorem bd_v {v : Nat} (h : v < 2 ^ 128) (k : Nat) : v / 2 ^ k < 2 ^ 128 := Nat.lt_of_le_of_lt (Nat.div_le_self _ _) h
theorem bd_small {n : Nat} (h : n < 2 ^ 140) : Bd (n : Int) := by
  unfold Bd
  have e : (n : Int).natAbs = n := Int.natAbs_natCast n
  rw [e]
  exact Nat.lt_trans h (by decide +kernel)
end Go.Proofs.YtoiofbpmgihkfaaDoor
