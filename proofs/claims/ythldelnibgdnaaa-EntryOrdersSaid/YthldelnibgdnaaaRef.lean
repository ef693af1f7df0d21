/- matchguardref01.And, Or, Xor: what they return. -/
import Derived.Test.YthldelnibgdnaaaJBits
import Derived.Deep.DeepCutAuto
namespace Go.Proofs.Ythldelnibgdnaaa
open Go.RowKit

/-- Two arrays of bits have been made, in blocks x and y. -/
structure TwoAt (w : World) (f g : Nat → Bool) (x y : Nat) (w' : World) : Prop where
  below : Below w.heap.size w w'
  nx : w.heap.size + 3 ≤ x
  ny : w.heap.size + 3 ≤ y
  ne : x ≠ y
  arrx : BitsAt w' x f
  arry : BitsAt w' y g
  r0 : w'.cell? ⟨w.heap.size + 2, 0, none⟩ = some (.int .u64 0)
  r1 : w'.cell? ⟨w.heap.size + 2, 1, none⟩ = some (.int .u64 0)
  q0 : w'.frozen? ⟨w.heap.size + 2, 0, none⟩ = false
  q1 : w'.frozen? ⟨w.heap.size + 2, 1, none⟩ = false
theorem keep2 {W0 W : World} {p q : Nat} {x0 x1 y0 y1 : Value} (hp : p < W0.heap.size) (hq : q < W0.heap.size) (c0 : W0.cell? ⟨p, 0, none⟩ = some x0) (c1 : W0.cell? ⟨p, 1, none⟩ = some x1) (c2 : W0.cell? ⟨q, 0, none⟩ = some y0) (c3 : W0.cell? ⟨q, 1, none⟩ = some y1) (hb : Below W0.heap.size W0 W) :
    Below W0.heap.size W0 W ∧ W.cell? ⟨p, 0, none⟩ = some x0 ∧ W.cell? ⟨p, 1, none⟩ = some x1 ∧ W.cell? ⟨q, 0, none⟩ = some y0 ∧ W.cell? ⟨q, 1, none⟩ = some y1 :=
  ⟨hb, by rw [hb.cell (p := ⟨_, _, none⟩) hp]; exact c0, by rw [hb.cell (p := ⟨_, _, none⟩) hp]; exact c1, by rw [hb.cell (p := ⟨_, _, none⟩) hq]; exact c2, by rw [hb.cell (p := ⟨_, _, none⟩) hq]; exact c3⟩
theorem belowCall {W0 W W' : World} {R : Prop} (hx : Below W.heap.size W W') (h : Below W0.heap.size W0 W ∧ R) : Below W0.heap.size W0 W' := h.1.trans (hx.mono h.1.size)
theorem belowAlloc {W0 W : World} {R : Prop} (h : Below W0.heap.size W0 W ∧ R) (o : Obj) : Below W0.heap.size W0 (W.alloc o) := h.1.alloc h.1.size _
theorem sz_alloc (W : World) (o : Obj) : (W.alloc o).heap.size = W.heap.size + 1 := by simp
theorem twoDone {w W0 W : World} {f g : Nat → Bool} {x y : Nat} {R : Prop} (bl : Below w.heap.size w W0) (sz : W0.heap.size = w.heap.size + 3) (t5 : W.there x 0 128) (t6 : W.there y 0 128) (n5 : W0.heap.size ≤ x) (n6 : W0.heap.size ≤ y) (ne : x ≠ y)
    (h : Below W0.heap.size W0 ((W.setCells x 0 (bitsL f)).setCells y 0 (bitsL g)) ∧ R) (r0 : W0.cell? ⟨w.heap.size + 2, 0, none⟩ = some (.int .u64 0)) (r1 : W0.cell? ⟨w.heap.size + 2, 1, none⟩ = some (.int .u64 0))
    (q0 : W0.frozen? ⟨w.heap.size + 2, 0, none⟩ = false) (q1 : W0.frozen? ⟨w.heap.size + 2, 1, none⟩ = false) : TwoAt w f g x y ((W.setCells x 0 (bitsL f)).setCells y 0 (bitsL g)) where
  below := bl.trans (h.1.mono bl.size)
  nx := by omega
  ny := by omega
  ne := ne
  arrx := (BitsAt.stored t5 f).farAll (fun e => ne e.symm) 0 _
  arry := BitsAt.stored (World.there_setCells t6 x 0 _) g
  r0 := by rw [h.1.cell (p := ⟨_, _, none⟩) (by show w.heap.size + 2 < _; omega)]; exact r0
  r1 := by rw [h.1.cell (p := ⟨_, _, none⟩) (by show w.heap.size + 2 < _; omega)]; exact r1
  q0 := by rw [h.1.frozen (p := ⟨_, _, none⟩) (by show w.heap.size + 2 < _; omega)]; exact q0
  q1 := by rw [h.1.frozen (p := ⟨_, _, none⟩) (by show w.heap.size + 2 < _; omega)]; exact q1
theorem TwoAt.put {w : World} {f f' g : Nat → Bool} {x y : Nat} {W : World} (h : TwoAt w f g x y W) (k : Nat) (hk : k < 128) (v : Bool) (hg : ∀ i, i < 128 → f' i = if i = k then v else f i) : TwoAt w f' g x y (W.setCell ⟨x, k, none⟩ (.bool v)) where
  below := h.below.setCell (by have := h.nx; simp; omega) _
  nx := h.nx
  ny := h.ny
  ne := h.ne
  arrx := h.arrx.put k hk v hg
  arry := h.arry.far _ h.ne _
  r0 := by rw [World.cell?_setCell_far _ _ _ _ (by have := h.nx; simp; omega)]; exact h.r0
  r1 := by rw [World.cell?_setCell_far _ _ _ _ (by have := h.nx; simp; omega)]; exact h.r1
  q0 := by rw [World.frozen?_setCell]; exact h.q0
  q1 := by rw [World.frozen?_setCell]; exact h.q1
theorem TwoAt.congr {w : World} {f f' g : Nat → Bool} {x y : Nat} {W : World} (h : TwoAt w f g x y W) (hf : ∀ i, i < 128 → f i = f' i) : TwoAt w f' g x y W :=
  { h with arrx := h.arrx.congr hf }
theorem TwoAt.drew {w : World} {f g : Nat → Bool} {x y : Nat} {W : World} (h : TwoAt w f g x y W) : TwoAt w f g x y W.drew :=
  ⟨h.below.drew, h.nx, h.ny, h.ne, h.arrx.drew, h.arry.drew, h.r0, h.r1, h.q0, h.q1⟩
set_option maxRecDepth 100000 in
theorem step_if (f : Nat → Bool) (h : Nat → Bool) (k i : Nat) : (if i < k + 1 then h i else f i) = if i = k then h k else (if i < k then h i else f i) := by
  by_cases e : i = k
  · subst e; simp
  · rw [if_neg e]
    by_cases h' : i < k
    · rw [if_pos h', if_pos (by omega)]
    · rw [if_neg h', if_neg (by omega)]
set_option maxRecDepth 100000 in
theorem TwoAt.below_size {w : World} {f g : Nat → Bool} {x y : Nat} {W : World} (h : TwoAt w f g x y W) : w.heap.size + 3 ≤ W.heap.size := by
  have h1 := h.nx
  have h2 := World.block_lt_of_cell? W _ (h.arrx.cell 0 (by decide))
  simp at h2
  omega
/-- What And has in its first array at bit i. -/
def randBit (a b i : Nat) : Bool := a.testBit i && b.testBit i
set_option maxRecDepth 100000 in
theorem rand_of (a b : Nat) (_ha : a < 2 ^ 128) (hb : b < 2 ^ 128) : ofBits (fun i => if i < 128 then randBit a b i else a.testBit i) = a &&& b := by
  refine ofBits_eq (Nat.and_lt_two_pow _ hb) fun i hi => ?_
  rw [if_pos hi, Nat.testBit_and, randBit]
/-- What Or has in its first array at bit i. -/
def rorBit (a b i : Nat) : Bool := a.testBit i || b.testBit i
set_option maxRecDepth 100000 in
theorem ror_of (a b : Nat) (_ha : a < 2 ^ 128) (hb : b < 2 ^ 128) : ofBits (fun i => if i < 128 then rorBit a b i else a.testBit i) = a ||| b := by
  refine ofBits_eq (Nat.or_lt_two_pow _ha hb) fun i hi => ?_
  rw [if_pos hi, Nat.testBit_or, rorBit]
/-- What Xor has in its first array at bit i. -/
def rxorBit (a b i : Nat) : Bool := a.testBit i ^^ b.testBit i
set_option maxRecDepth 100000 in
theorem rxor_of (a b : Nat) (_ha : a < 2 ^ 128) (hb : b < 2 ^ 128) : ofBits (fun i => if i < 128 then rxorBit a b i else a.testBit i) = a ^^^ b := by
  refine ofBits_eq (Nat.xor_lt_two_pow _ha hb) fun i hi => ?_
  rw [if_pos hi, Nat.testBit_xor, rxorBit]
end Go.Proofs.Ythldelnibgdnaaa
