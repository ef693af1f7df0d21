/- Contracts, joined: Begun, Parse, BackPure, RefParse, RefBytes. -/
import Derived.Test.YtodmkmoglchoeaaGreatDoorJVal
import Derived.Test.YtodmkmoglchoeaaGreatDoorJBits
import Derived.Deep.OwnRows
namespace Go.Proofs.YtodmkmoglchoeaaGreatDoor
/- The sanity check 'begun' of the laws: it returns true. -/
section
open Go.RowKit

end
/- Parse of package value: what it returns. -/
section
open Go.RowKit

/-- A slice of n bytes g that can be read; it is nil, or lies in an old block. -/
def ReadsB (w : World) (A : Option Addr) (n : Nat) (g : Nat → Nat) : Prop :=
  n = 0 ∨ ∃ b o : Nat, A = some ⟨b, o, none⟩ ∧ b < w.heap.size ∧ (∀ i, i < n → w.cell? ⟨b, o + i, none⟩ = some (.int .u8 (g i))) ∧ ∀ i, i < n → g i < 256
set_option maxRecDepth 100000 in
theorem ReadsB.below {w w' : World} {A : Option Addr} {n : Nat} {g : Nat → Nat} (h : ReadsB w A n g) (hx : Below w.heap.size w w') : ReadsB w' A n g := by
  rcases h with h | ⟨b, o, rfl, hb, hc, hg⟩
  · exact .inl h
  · exact .inr ⟨b, o, rfl, Nat.lt_of_lt_of_le hb hx.size, fun i hi => by rw [hx.cell (p := ⟨_, _, none⟩) hb]; exact hc i hi, hg⟩

/-- Where Parse is after k bytes. -/
structure ParseAt (w : World) (v : Nat) (w' : World) : Prop where
  below : Below w.heap.size w w'
  size : w.heap.size + 2 ≤ w'.heap.size
  r0 : w'.cell? ⟨w.heap.size, 0, none⟩ = some (.int .u64 0)
  r1 : w'.cell? ⟨w.heap.size, 1, none⟩ = some (.int .u64 0)
  q0 : w'.frozen? ⟨w.heap.size, 0, none⟩ = false
  q1 : w'.frozen? ⟨w.heap.size, 1, none⟩ = false
  a0 : w'.cell? ⟨w.heap.size + 1, 0, none⟩ = some (.int .u64 (hi v))
  a1 : w'.cell? ⟨w.heap.size + 1, 1, none⟩ = some (.int .u64 (lo v))
  f0 : w'.frozen? ⟨w.heap.size + 1, 0, none⟩ = false
  f1 : w'.frozen? ⟨w.heap.size + 1, 1, none⟩ = false
set_option maxRecDepth 100000 in
theorem ParseAt.next {w : World} {v : Nat} {W W' : World} (h : ParseAt w v W) (hx : Below W.heap.size W W') (u : Nat) :
    ParseAt w u ((W'.setCell ⟨w.heap.size + 1, 0, none⟩ (.int .u64 (hi u))).setCell ⟨w.heap.size + 1, 1, none⟩ (.int .u64 (lo u))) := by
  have hs := h.size
  have hs2 := hx.size
  have c0 : W'.cell? ⟨w.heap.size + 1, 0, none⟩ = some (.int .u64 (hi v)) := by rw [hx.cell (p := ⟨_, _, none⟩) (by simp; omega)]; exact h.a0
  have c1 : W'.cell? ⟨w.heap.size + 1, 1, none⟩ = some (.int .u64 (lo v)) := by rw [hx.cell (p := ⟨_, _, none⟩) (by simp; omega)]; exact h.a1
  exact {
    below := ((h.below.trans (hx.mono h.below.size)).setCell (by simp) _).setCell (by simp) _
    size := by have : w.heap.size + 2 ≤ W'.heap.size := by omega
               simpa [World.setCell] using this
    r0 := by rw [World.cell?_setCell_far _ _ _ _ (by simp), World.cell?_setCell_far _ _ _ _ (by simp), hx.cell (p := ⟨_, _, none⟩) (by simp; omega)]; exact h.r0
    r1 := by rw [World.cell?_setCell_far _ _ _ _ (by simp), World.cell?_setCell_far _ _ _ _ (by simp), hx.cell (p := ⟨_, _, none⟩) (by simp; omega)]; exact h.r1
    q0 := by rw [World.frozen?_setCell, World.frozen?_setCell, hx.frozen (p := ⟨_, _, none⟩) (by simp; omega)]; exact h.q0
    q1 := by rw [World.frozen?_setCell, World.frozen?_setCell, hx.frozen (p := ⟨_, _, none⟩) (by simp; omega)]; exact h.q1
    a0 := by rw [World.cell?_setCell_other _ _ _ _ (by simp)]; exact World.cell?_setCell_same' _ _ _ (by rw [c0]; rfl)
    a1 := World.cell?_setCell_same' _ _ _ (by rw [World.cell?_setCell_other _ _ _ _ (by simp), c1]; rfl)
    f0 := by rw [World.frozen?_setCell, World.frozen?_setCell, hx.frozen (p := ⟨_, _, none⟩) (by simp; omega)]; exact h.f0
    f1 := by rw [World.frozen?_setCell, World.frozen?_setCell, hx.frozen (p := ⟨_, _, none⟩) (by simp; omega)]; exact h.f1 }

set_option maxRecDepth 100000 in
theorem hi_zero : hi 0 = 0 := rfl
set_option maxRecDepth 100000 in
theorem lo_zero : lo 0 = 0 := rfl
end
/- Canonical byte strings and numbers: plain facts; Bytes with its result's form. -/
section
open Go.RowKit

end
/- matchguardref01.Parse: what it returns. -/
section
open Go.RowKit

/-- Bit j of the array after i bytes and k bits of the next one. -/
def pb (n : Nat) (g : Nat → Nat) (i k j : Nat) : Bool := decide (j / 8 < n ∧ (n - 1 - j / 8 < i ∨ n - 1 - j / 8 = i ∧ j % 8 < k)) && (g (n - 1 - j / 8)).testBit (j % 8)
end
/- matchguardref01.Bytes: what it returns. -/
section
open Go.RowKit

/-- Byte q, the lowest one first, of the first i bits of a. -/
def bv (a i q : Nat) : Nat := a % 2 ^ i / 2 ^ (8 * q) % 256
set_option maxRecDepth 100000 in
theorem testBit_bv (a i q r : Nat) : (bv a i q).testBit r = (decide (r < 8) && (decide (r + 8 * q < i) && a.testBit (r + 8 * q))) := by
  unfold bv
  rw [show (256 : Nat) = 2 ^ 8 by decide, Nat.testBit_mod_two_pow, Nat.testBit_div_two_pow, Nat.testBit_mod_two_pow]
set_option maxRecDepth 100000 in
theorem bv_other (a i q : Nat) (h : q ≠ i / 8) : bv a (i + 1) q = bv a i q := by
  apply Nat.eq_of_testBit_eq; intro r
  rw [testBit_bv, testBit_bv]
  by_cases e2 : r < 8
  · have e3 : decide (r + 8 * q < i + 1) = decide (r + 8 * q < i) := by rw [decide_eq_decide]; omega
    rw [e3]
  · simp [e2]
set_option maxRecDepth 100000 in
theorem bv_no (a i q : Nat) (h : a.testBit i = false) : bv a (i + 1) q = bv a i q := by
  apply Nat.eq_of_testBit_eq; intro r
  rw [testBit_bv, testBit_bv]
  by_cases e : r + 8 * q = i
  · rw [e, h]; simp
  · have e3 : decide (r + 8 * q < i + 1) = decide (r + 8 * q < i) := by rw [decide_eq_decide]; omega
    rw [e3]
/-- Where Bytes is after i bits: the bits lie in block X, the bytes in block O. -/
structure RB (w : World) (a n X O i : Nat) (W : World) : Prop where
  below : Below w.heap.size w W
  no : w.heap.size ≤ O
  ne : O ≠ X
  lo : O < W.heap.size
  arr : BitsAt W X a.testBit
  out : RowAt W O n fun p => .int .u8 (bv a i (n - 1 - p))
set_option maxRecDepth 100000 in
theorem RB.put {w : World} {a n X O i : Nat} {W : World} (h : RB w a n X O i W) (p q : Nat) (hp : p < n) (hq : q = n - 1 - p) (e : q = i / 8) : RB w a n X O (i + 1) (W.setCell ⟨O, p, none⟩ (.int .u8 (bv a (i + 1) q))) where
  below := h.below.setCell h.no _
  no := h.no
  ne := h.ne
  lo := by have := h.lo; simpa [World.setCell] using this
  arr := h.arr.far _ h.ne _
  out := h.out.put p hp _ fun k hk => by
    by_cases hkp : k = p
    · subst hkp
      rw [if_pos rfl, hq]
    · rw [if_neg hkp, bv_other _ _ _ (by omega)]
set_option maxRecDepth 100000 in
theorem RB.skip {w : World} {a n X O i : Nat} {W : World} (h : RB w a n X O i W) (hb : a.testBit i = false) : RB w a n X O (i + 1) W :=
  { h with out := h.out.congr fun k _ => by rw [bv_no _ _ _ hb] }

end
end Go.Proofs.YtodmkmoglchoeaaGreatDoor
