/- Package number: Of, From, isValue, top, negative, Compare, Value, Add, Sub, Neg. -/
import Derived.Test.YtoiofbpmgihkfaaDoorNNum2
namespace Go.Proofs.YtoiofbpmgihkfaaDoor
open Go.RowKit

/-- a result (zero yet) in block r, and a number in block o whose first words have been laid -/
structure FillAt (w : World) (r o : Nat) (g : Nat → Int) (k : Nat) (w' : World) : Prop where
  below : Below w.heap.size w w'
  nr : w.heap.size ≤ r
  no : w.heap.size ≤ o
  ne : r ≠ o
  lt : o < w'.heap.size
  res : RowAt w' r 6 fun _ => .int .u32 0
  out : RowAt w' o 6 fun i => .int .u32 (if i < k then g i else 0)
theorem FillAt.next {w w' : World} {r o : Nat} {g : Nat → Int} {k : Nat} (h : FillAt w r o g k w') (hk : k < 6) (x : Int) (hx : x = g k) :
    FillAt w r o g (k + 1) (w'.setCell ⟨o, k, none⟩ (.int .u32 x)) := by
  subst hx
  exact ⟨h.below.setCell h.no _, h.nr, h.no, h.ne, by rw [World.size_setCell]; exact h.lt, h.res.far _ (fun e => h.ne e.symm) _, h.out.put k hk _ (fun i _ => turn_if (fun _ => 0) g k i)⟩
theorem FillAt.call {w w1 w2 : World} {r o : Nat} {g : Nat → Int} {k : Nat} (h : FillAt w r o g k w1) (hb : Below w1.heap.size w1 w2) (hr : r < w1.heap.size) : FillAt w r o g k w2 :=
  ⟨h.below.trans (hb.mono h.below.size), h.nr, h.no, h.ne, Nat.lt_of_lt_of_le h.lt hb.size, h.res.below hb hr, h.out.below hb h.lt⟩
theorem FillAt.done {w w' : World} {r o : Nat} {z : Int} (h : FillAt w r o (wd z) 6 w') : RowAt w' o 6 (wV z) :=
  h.out.congr fun i hi => by rw [if_pos hi]; rfl
theorem zero6 : #[Value.int IntKind.u32 0, .int .u32 0, .int .u32 0, .int .u32 0, .int .u32 0, .int .u32 0] = rowA 6 fun _ => .int .u32 0 := rfl
theorem FillAt.begun {w W : World} (g : Nat → Int) (hb : Below w.heap.size w W) : FillAt w W.heap.size (W.heap.size + 1) g 0 ((W.alloc (.cells #[.int .u32 0, .int .u32 0, .int .u32 0, .int .u32 0, .int .u32 0, .int .u32 0] 107)).alloc (.cells #[.int .u32 0, .int .u32 0, .int .u32 0, .int .u32 0, .int .u32 0, .int .u32 0] 107)) := by
  rw [zero6]
  have h0 := RowAt.new W 6 (fun _ => .int .u32 0) 107
  have h1 := RowAt.new (W.alloc (.cells (rowA 6 fun _ => .int .u32 0) 107)) 6 (fun _ => .int .u32 0) 107
  simp only [World.size_alloc] at h1
  exact ⟨(hb.alloc hb.size _).alloc (by have := hb.size; simp; omega) _, hb.size, by have := hb.size; omega, by omega, by simp, h0.past (by simp) _, RowAt.congr (f := fun _ => .int .u32 0) h1 fun i _ => by simp⟩

theorem sh_of (n : Int) (k : Nat) : n / pw (k + 1) = n / pw k / 4294967296 := div_succ n k
theorem pw_nat (k : Nat) : pw k = ((2 ^ (k * 32) : Nat) : Int) := by
  induction k with
  | zero => rfl
  | succ k ih => rw [pw_succ, ih, show (k + 1) * 32 = k * 32 + 32 by omega, Nat.pow_add, Int.natCast_mul]; rfl
theorem from_word (v : Nat) (k : Nat) : lo (v / 2 ^ (k * 32)) % 4294967296 = wd v k := by
  unfold lo wd
  rw [pw_nat, ← Int.natCast_ediv]
  omega
theorem pw_le (k : Nat) (hk : 4 ≤ k) : pw 4 ≤ pw k := by
  obtain ⟨j, rfl⟩ := Nat.exists_eq_add_of_le hk
  have h : pw (4 + j) = pw 4 * pw j := Int.pow_add _ _ _
  rw [h]
  have := Int.mul_le_mul_of_nonneg_left (show 1 ≤ pw j from pw_pos j) (Int.le_of_lt (pw_pos 4))
  omega
theorem from_top (v : Nat) (hv : v < 2 ^ 128) (k : Nat) (hk : 4 ≤ k) : wd v k = 0 := by
  have hp := pw_le k hk
  have h4 : pw 4 = 340282366920938463463374607431768211456 := rfl
  unfold wd
  rw [Int.ediv_eq_zero_of_lt (by omega) (by omega)]
  rfl
/-- From's state -/
structure FromAt (w : World) (v k : Nat) (w' : World) : Prop where
  fill : FillAt w (w.heap.size + 1) (w.heap.size + 1 + 1) (wd v) k w'
  h0 : w'.cell? ⟨w.heap.size, 0, none⟩ = some (.int .u64 (hi v))
  h1 : w'.cell? ⟨w.heap.size, 1, none⟩ = some (.int .u64 (lo v))
theorem store6 {B : Nat} {w0 w : World} (h : Below B w0 w) {b : Nat} (hb : B ≤ b) (v0 v1 v2 v3 v4 v5 : Value) : Below B w0 ((((((w.setCell ⟨b, 0, none⟩ v0).setCell ⟨b, 1, none⟩ v1).setCell ⟨b, 2, none⟩ v2).setCell ⟨b, 3, none⟩ v3).setCell ⟨b, 4, none⟩ v4).setCell ⟨b, 5, none⟩ v5) :=
  (((((h.setCell (p := ⟨b, 0, none⟩) hb _).setCell (p := ⟨b, 1, none⟩) hb _).setCell (p := ⟨b, 2, none⟩) hb _).setCell (p := ⟨b, 3, none⟩) hb _).setCell (p := ⟨b, 4, none⟩) hb _).setCell (p := ⟨b, 5, none⟩) hb _
end Go.Proofs.YtoiofbpmgihkfaaDoor
