/- The law ValueRings: its walk. -/
import Derived.Test.YtodmkmoglchoeaaDoorJParse
namespace Go.Proofs.YtodmkmoglchoeaaDoor
open Go.RowKit

/-- The sum and the difference of a number of bits. -/
def vadd (k : Int) (a b : Nat) : Nat := (a + b) % 2 ^ cl k
def vsub (k : Int) (a b : Nat) : Nat := (a + 2 ^ 128 - b) % 2 ^ cl k
theorem and_ones (x : Nat) (k : Int) : x % 2 ^ 128 &&& ones k = x % 2 ^ cl k := by
  unfold ones
  rw [Nat.and_two_pow_sub_one_eq_mod, Nat.mod_mod_of_dvd]
  exact Nat.pow_dvd_pow 2 (cl_le k)
theorem vadd_eq (k : Int) (a b : Nat) : vsum a b &&& ones k = vadd k a b := and_ones _ k
theorem vsub_eq (k : Int) (a b : Nat) : vdif a b &&& ones k = vsub k a b := and_ones _ k
set_option maxRecDepth 100000 in
theorem vadd_lt (k : Int) (a b : Nat) : vadd k a b < 2 ^ 128 :=
  Nat.lt_of_lt_of_le (Nat.mod_lt _ (Nat.two_pow_pos _)) (Nat.pow_le_pow_right (by decide) (cl_le k))
set_option maxRecDepth 100000 in
theorem cl_128 : cl 128 = 128 := by decide
set_option maxRecDepth 100000 in
theorem ring_back (a b : Nat) (ha : a < 2 ^ 128) (hb : b < 2 ^ 128) : vsub 128 (vadd 128 a b) b = a := by
  unfold vsub vadd
  rw [cl_128]
  omega
set_option maxRecDepth 100000 in
theorem ring_comm (k : Int) (a b : Nat) : vadd k b a = vadd k a b := by unfold vadd; rw [Nat.add_comm]
set_option maxRecDepth 100000 in
theorem ring_assoc (k : Int) (a b c : Nat) : vadd k a (vadd k b c) = vadd k (vadd k a b) c := by
  unfold vadd
  rw [Nat.add_mod_mod, Nat.mod_add_mod, Nat.add_assoc]
set_option maxRecDepth 100000 in
theorem ring_left (a : Nat) : vleft a 1 = vadd 128 a a := by
  unfold vleft vadd
  rw [cl_128]
  omega

set_option maxRecDepth 100000 in
/-- Three boxed values and what lies below. -/
theorem keep3 {w W w' : World} {a b c : Nat} (hb : Below W.heap.size W w')
    (h : Below w.heap.size w W ∧ w.heap.size + 3 ≤ W.heap.size ∧ W.cell? ⟨w.heap.size, 0, none⟩ = some (.int .u64 (hi a)) ∧ W.cell? ⟨w.heap.size, 1, none⟩ = some (.int .u64 (lo a)) ∧
      W.cell? ⟨w.heap.size + 1, 0, none⟩ = some (.int .u64 (hi b)) ∧ W.cell? ⟨w.heap.size + 1, 1, none⟩ = some (.int .u64 (lo b)) ∧
      W.cell? ⟨w.heap.size + 2, 0, none⟩ = some (.int .u64 (hi c)) ∧ W.cell? ⟨w.heap.size + 2, 1, none⟩ = some (.int .u64 (lo c))) :
    Below w.heap.size w w' ∧ w.heap.size + 3 ≤ w'.heap.size ∧ w'.cell? ⟨w.heap.size, 0, none⟩ = some (.int .u64 (hi a)) ∧ w'.cell? ⟨w.heap.size, 1, none⟩ = some (.int .u64 (lo a)) ∧
      w'.cell? ⟨w.heap.size + 1, 0, none⟩ = some (.int .u64 (hi b)) ∧ w'.cell? ⟨w.heap.size + 1, 1, none⟩ = some (.int .u64 (lo b)) ∧
      w'.cell? ⟨w.heap.size + 2, 0, none⟩ = some (.int .u64 (hi c)) ∧ w'.cell? ⟨w.heap.size + 2, 1, none⟩ = some (.int .u64 (lo c)) := by
  obtain ⟨h0, h1, h2, h3, h4, h5, h6, h7⟩ := h
  have hs := hb.size
  refine ⟨h0.trans (hb.mono h0.size), by omega, ?_, ?_, ?_, ?_, ?_, ?_⟩
  · rw [hb.cell (p := ⟨_, _, none⟩) (by simp; omega)]; exact h2
  · rw [hb.cell (p := ⟨_, _, none⟩) (by simp; omega)]; exact h3
  · rw [hb.cell (p := ⟨_, _, none⟩) (by simp; omega)]; exact h4
  · rw [hb.cell (p := ⟨_, _, none⟩) (by simp; omega)]; exact h5
  · rw [hb.cell (p := ⟨_, _, none⟩) (by simp; omega)]; exact h6
  · rw [hb.cell (p := ⟨_, _, none⟩) (by simp; omega)]; exact h7

end Go.Proofs.YtodmkmoglchoeaaDoor
