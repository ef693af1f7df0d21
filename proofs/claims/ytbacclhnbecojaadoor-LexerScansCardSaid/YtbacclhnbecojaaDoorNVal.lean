/- Package number: Value. -/
import Derived.Test.YtbacclhnbecojaaDoorNNum5
namespace Go.Proofs.YtbacclhnbecojaaDoor
open Go.RowKit

/-- what the first k words of n are worth -/
def lowV (n k : Nat) : Nat := n % 2 ^ (k * 32)
theorem lowV_0 (n : Nat) : lowV n 0 = 0 := by unfold lowV; simp [Nat.mod_one]
theorem lowV_lt (n k : Nat) (hk : k ≤ 4) : lowV n k < 2 ^ 128 :=
  Nat.lt_of_lt_of_le (Nat.mod_lt _ (Nat.pow_pos (by decide))) (Nat.pow_le_pow_right (by decide) (by omega))
def wdN (n k : Nat) : Nat := n / 2 ^ (k * 32) % 4294967296
theorem wdN_eq (n k : Nat) : wd n k = (wdN n k : Int) := by
  unfold wd wdN
  rw [pw_nat, ← Int.natCast_ediv]
  omega
theorem wdN_lt (n k : Nat) : wdN n k < 4294967296 := Nat.mod_lt _ (by decide)
theorem lowV_step (n k : Nat) (hk : k < 4) : lowV n k ||| (wdN n k * 2 ^ (k * 32) % 2 ^ 128) = lowV n (k + 1) := by
  have e1 : 2 ^ ((k + 1) * 32) = 2 ^ (k * 32) * 4294967296 := by rw [Nat.add_mul, Nat.pow_add]
  have hlt : wdN n k * 2 ^ (k * 32) < 2 ^ 128 := by
    have h1 : wdN n k * 2 ^ (k * 32) < 4294967296 * 2 ^ (k * 32) := Nat.mul_lt_mul_of_pos_right (wdN_lt n k) (Nat.pow_pos (by decide))
    have h2 : 4294967296 * 2 ^ (k * 32) ≤ 2 ^ 128 := by
      rw [show (4294967296 : Nat) = 2 ^ 32 by decide, ← Nat.pow_add]
      exact Nat.pow_le_pow_right (by decide) (by omega)
    omega
  rw [Nat.mod_eq_of_lt hlt]
  have h := Nat.shiftLeft_add_eq_or_of_lt (i := k * 32) (b := lowV n k) (Nat.mod_lt _ (Nat.pow_pos (by decide))) (wdN n k)
  rw [Nat.shiftLeft_eq] at h
  rw [Nat.or_comm, ← h]
  unfold lowV wdN
  rw [e1, Nat.mod_mul]
  rw [Nat.mul_comm]; omega
theorem lowV_4 (n : Nat) (h : n < 2 ^ 128) : lowV n 4 = n := Nat.mod_eq_of_lt h

/-- Value's state: the number in its box, the result (zero yet), the value of the first k words in block V -/
structure ValAt (w : World) (V n k : Nat) (w' : World) : Prop where
  below : Below w.heap.size w w'
  nv : w.heap.size + 2 ≤ V
  lt : V < w'.heap.size
  ra : RowAt w' w.heap.size 6 (wV n)
  r0 : w'.cell? ⟨w.heap.size + 1, 0, none⟩ = some (.int .u64 0)
  r1 : w'.cell? ⟨w.heap.size + 1, 1, none⟩ = some (.int .u64 0)
  q0 : w'.frozen? ⟨w.heap.size + 1, 0, none⟩ = false
  q1 : w'.frozen? ⟨w.heap.size + 1, 1, none⟩ = false
  v0 : w'.cell? ⟨V, 0, none⟩ = some (.int .u64 (hi (lowV n k)))
  v1 : w'.cell? ⟨V, 1, none⟩ = some (.int .u64 (lo (lowV n k)))
  f0 : w'.frozen? ⟨V, 0, none⟩ = false
  f1 : w'.frozen? ⟨V, 1, none⟩ = false
theorem ValAt.drew {w w1 : World} {V n k : Nat} (h : ValAt w V n k w1) : ValAt w V n k w1.drew := ⟨h.below.drew, h.nv, h.lt, h.ra.drew, h.r0, h.r1, h.q0, h.q1, h.v0, h.v1, h.f0, h.f1⟩
theorem ValAt.call {w w1 w2 : World} {V n k : Nat} (h : ValAt w V n k w1) (hb : Below w1.heap.size w1 w2) : ValAt w V n k w2 := by
  have hs := h.lt
  have hv := h.nv
  have c : ∀ b o, b ≤ V → w2.cell? ⟨b, o, none⟩ = w1.cell? ⟨b, o, none⟩ := fun b o hl => hb.cell (p := ⟨b, o, none⟩) (by show b < _; omega)
  have f : ∀ b o, b ≤ V → w2.frozen? ⟨b, o, none⟩ = w1.frozen? ⟨b, o, none⟩ := fun b o hl => hb.frozen (p := ⟨b, o, none⟩) (by show b < _; omega)
  exact ⟨h.below.trans (hb.mono (by omega)), h.nv, Nat.lt_of_lt_of_le h.lt hb.size, h.ra.below hb (by omega), by rw [c _ _ (by omega)]; exact h.r0, by rw [c _ _ (by omega)]; exact h.r1, by rw [f _ _ (by omega)]; exact h.q0, by rw [f _ _ (by omega)]; exact h.q1,
    by rw [c _ _ (by omega)]; exact h.v0, by rw [c _ _ (by omega)]; exact h.v1, by rw [f _ _ (by omega)]; exact h.f0, by rw [f _ _ (by omega)]; exact h.f1⟩
theorem ValAt.set {w w1 : World} {V n k : Nat} (h : ValAt w V n k w1) (j : Nat) : ValAt w V n j ((w1.setCell ⟨V, 0, none⟩ (.int .u64 (hi (lowV n j)))).setCell ⟨V, 1, none⟩ (.int .u64 (lo (lowV n j)))) := by
  have hv := h.nv
  refine ⟨(h.below.setCell (by simp; omega) _).setCell (by simp; omega) _, hv, by rw [World.size_setCell, World.size_setCell]; exact h.lt, (h.ra.far _ (by simp; omega) _).far _ (by simp; omega) _, ?_, ?_, ?_, ?_, ?_, ?_, ?_, ?_⟩
  · rw [World.cell?_setCell_far _ _ _ _ (by simp; omega), World.cell?_setCell_far _ _ _ _ (by simp; omega)]; exact h.r0
  · rw [World.cell?_setCell_far _ _ _ _ (by simp; omega), World.cell?_setCell_far _ _ _ _ (by simp; omega)]; exact h.r1
  · rw [World.frozen?_setCell, World.frozen?_setCell]; exact h.q0
  · rw [World.frozen?_setCell, World.frozen?_setCell]; exact h.q1
  · rw [World.cell?_setCell_other _ _ _ _ (by simp), World.cell?_setCell_same' _ _ _ (by rw [h.v0]; rfl)]
  · rw [World.cell?_setCell_same' _ _ _ (by rw [World.cell?_setCell_other _ _ _ _ (by simp), h.v1]; rfl)]
  · rw [World.frozen?_setCell, World.frozen?_setCell]; exact h.f0
  · rw [World.frozen?_setCell, World.frozen?_setCell]; exact h.f1
/-- The call returns the value n and true; nothing that there was is changed. -/
def RetVB (n : Nat) (b : Bool) (w : World) (e : Ending) (w' : World) : Prop := e = .returned (.tuple #[.agg #[.int .u64 (hi n), .int .u64 (lo n)], .bool b]) ∧ Below w.heap.size w w'
theorem store2 {B : Nat} {w0 w : World} (h : Below B w0 w) {b : Nat} (hb : B ≤ b) (v0 v1 : Value) : Below B w0 ((w.setCell ⟨b, 0, none⟩ v0).setCell ⟨b, 1, none⟩ v1) :=
  (h.setCell (p := ⟨b, 0, none⟩) hb _).setCell (p := ⟨b, 1, none⟩) hb _
theorem isV_nat (n : Nat) (h : n < 2 ^ 128) : isV n = true := by unfold isV; rw [decide_eq_true_iff]; omega
theorem rg_nat (n : Nat) (h : n < 2 ^ 128) : Rg n := by unfold Rg; omega
end Go.Proofs.YtbacclhnbecojaaDoor
