/- matchguardref01: clamp, Ones, Leading, Not, Left, Right: what they return. -/
import Derived.Test.YthfimcbjbkbcjaaMake
namespace Go.Proofs.Ythfimcbjbkbcjaa
open Go.RowKit

theorem cl_int (n : Int) : max 0 (min n 128) = (cl n : Int) := by unfold cl; omega
/-- An array of bits has been made in block x; block r is the result's. -/
structure OneAt (w : World) (r x : Nat) (f : Nat → Bool) (w' : World) : Prop where
  below : Below w.heap.size w w'
  nr : w.heap.size ≤ r
  nx : w.heap.size ≤ x
  ne : r ≠ x
  lr : r < w'.heap.size
  lx : x < w'.heap.size
  arr : BitsAt w' x f
  r0 : w'.cell? ⟨r, 0, none⟩ = some (.int .u64 0)
  r1 : w'.cell? ⟨r, 1, none⟩ = some (.int .u64 0)
  q0 : w'.frozen? ⟨r, 0, none⟩ = false
  q1 : w'.frozen? ⟨r, 1, none⟩ = false
theorem OneAt.put {w : World} {r x : Nat} {f f' : Nat → Bool} {W : World} (h : OneAt w r x f W) (k : Nat) (hk : k < 128) (v : Bool) (hg : ∀ i, i < 128 → f' i = if i = k then v else f i) : OneAt w r x f' (W.setCell ⟨x, k, none⟩ (.bool v)) where
  below := h.below.setCell h.nx _
  nr := h.nr
  nx := h.nx
  ne := h.ne
  lr := by have := h.lr; simpa [World.setCell] using this
  lx := by have := h.lx; simpa [World.setCell] using this
  arr := h.arr.put k hk v hg
  r0 := by rw [World.cell?_setCell_far _ _ _ _ (fun e => h.ne e.symm)]; exact h.r0
  r1 := by rw [World.cell?_setCell_far _ _ _ _ (fun e => h.ne e.symm)]; exact h.r1
  q0 := by rw [World.frozen?_setCell]; exact h.q0
  q1 := by rw [World.frozen?_setCell]; exact h.q1
theorem OneAt.congr {w : World} {r x : Nat} {f f' : Nat → Bool} {W : World} (h : OneAt w r x f W) (hf : ∀ i, i < 128 → f i = f' i) : OneAt w r x f' W :=
  { h with arr := h.arr.congr hf }
theorem OneAt.after {w : World} {r x : Nat} {f : Nat → Bool} {W W' : World} (h : OneAt w r x f W) (hx : Below W.heap.size W W') :
    W'.cell? ⟨r, 0, none⟩ = some (.int .u64 0) ∧ W'.cell? ⟨r, 1, none⟩ = some (.int .u64 0) ∧ W'.frozen? ⟨r, 0, none⟩ = false ∧ W'.frozen? ⟨r, 1, none⟩ = false ∧ Below w.heap.size w W' :=
  ⟨by rw [hx.cell (p := ⟨_, _, none⟩) h.lr]; exact h.r0, by rw [hx.cell (p := ⟨_, _, none⟩) h.lr]; exact h.r1, by rw [hx.frozen (p := ⟨_, _, none⟩) h.lr]; exact h.q0, by rw [hx.frozen (p := ⟨_, _, none⟩) h.lr]; exact h.q1,
   h.below.trans (hx.mono h.below.size)⟩
theorem OneAt.first (w : World) (t : TypeId) (f : Nat → Bool) : OneAt w w.heap.size (w.heap.size + 1) f ((w.alloc (.cells #[.int .u64 0, .int .u64 0] t)).alloc (.cells (bitsA f) 86)) where
  below := ((Below.refl _ _).alloc (by simp) _).alloc (by simp) _
  nr := Nat.le_refl _
  nx := by omega
  ne := by omega
  lr := by simp; omega
  lx := by simp
  arr := by
    have := BitsAt.new (w.alloc (.cells #[.int .u64 0, .int .u64 0] t)) f 86
    simpa only [World.size_alloc] using this
  r0 := by simp [go_sem]
  r1 := by simp [go_sem]
  q0 := by simp [go_sem]
  q1 := by simp [go_sem]

theorem ones_of (k : Int) : ofBits (fun i => decide (i < cl k)) = ones k := by
  have hc := cl_le k
  refine ofBits_eq ?_ fun i hi => ?_
  · unfold ones
    have := Nat.pow_le_pow_right (n := 2) (by decide) hc
    have := Nat.two_pow_pos (cl k)
    omega
  · rw [ones, Nat.testBit_two_pow_sub_one]

theorem lead_of (k n : Int) : ofBits (fun i => decide (cl k - (min (max n 0) (cl k)).toNat ≤ i) && decide (i < cl k)) = lead k n := by
  have hc := cl_le k
  have e1 : cl (min (max k 0) 128) = cl k := by unfold cl; omega
  have e2 : cl (min (max k 0) 128 - min (max n 0) (min (max k 0) 128)) = cl k - (min (max n 0) (cl k)).toNat := by unfold cl; omega
  refine ofBits_eq ?_ fun i hi => ?_
  · unfold lead ones
    refine Nat.xor_lt_two_pow ?_ ?_
    · have := Nat.pow_le_pow_right (n := 2) (by decide) (cl_le (min (max k 0) 128))
      have := Nat.two_pow_pos (cl (min (max k 0) 128))
      omega
    · have := Nat.pow_le_pow_right (n := 2) (by decide) (cl_le (min (max k 0) 128 - min (max n 0) (min (max k 0) 128)))
      have := Nat.two_pow_pos (cl (min (max k 0) 128 - min (max n 0) (min (max k 0) 128)))
      omega
  · unfold lead ones
    rw [e1, e2, Nat.testBit_xor, Nat.testBit_two_pow_sub_one, Nat.testBit_two_pow_sub_one]
    by_cases h1 : i < cl k <;> by_cases h2 : i < cl k - (min (max n 0) (cl k)).toNat
    · have : ¬ (cl k - (min (max n 0) (cl k)).toNat ≤ i) := by omega
      simp [h1, h2, this]
    · have : cl k - (min (max n 0) (cl k)).toNat ≤ i := by omega
      simp [h1, h2, this]
    · omega
    · simp [h1, h2]

end Go.Proofs.Ythfimcbjbkbcjaa
