/- matchguardref01: Not, Left, Right: what they return. -/
import Derived.Test.YthfimcbjbkbcjaaRef2
namespace Go.Proofs.Ythfimcbjbkbcjaa
open Go.RowKit

/-- A boxed value in block p; the result's block r; an array in block x. -/
theorem OneAt.box (w : World) (t : TypeId) (x y : Value) (W : World) (hx : Below (w.heap.size + 2) ((w.alloc (.cells #[x, y] t)).alloc (.cells #[.int .u64 0, .int .u64 0] t)) W) (f : Nat → Bool) :
    OneAt w (w.heap.size + 1) W.heap.size f (W.alloc (.cells (bitsA f) 86)) := by
  have hs := hx.size
  simp at hs
  exact {
    below := (((Below.refl _ _).alloc (by simp) _).alloc (by simp) _).trans ((hx.mono (by omega)).alloc (by omega) _)
    nr := by omega
    nx := by omega
    ne := by omega
    lr := by simp; omega
    lx := by simp
    arr := BitsAt.new W f _
    r0 := by rw [World.cell?_alloc_past _ _ _ (by omega), hx.cell (p := ⟨_, _, none⟩) (by simp)]; simp [go_sem]
    r1 := by rw [World.cell?_alloc_past _ _ _ (by omega), hx.cell (p := ⟨_, _, none⟩) (by simp)]; simp [go_sem]
    q0 := by rw [World.frozen?_alloc_past _ _ _ (by omega), hx.frozen (p := ⟨_, _, none⟩) (by simp)]; simp [go_sem]
    q1 := by rw [World.frozen?_alloc_past _ _ _ (by omega), hx.frozen (p := ⟨_, _, none⟩) (by simp)]; simp [go_sem] }

theorem not_of (a : Nat) (k : Int) : ofBits (fun i => if i < 128 then decide (i < cl k) && !a.testBit i else a.testBit i) = ones k &&& compl a := by
  have hc := cl_le k
  refine ofBits_eq ?_ fun i hi => ?_
  · refine Nat.lt_of_le_of_lt Nat.and_le_left ?_
    unfold ones
    have := Nat.pow_le_pow_right (n := 2) (by decide) hc
    have := Nat.two_pow_pos (cl k)
    omega
  · rw [if_pos hi, Nat.testBit_and, ones, Nat.testBit_two_pow_sub_one, testBit_compl]
    simp [hi]
theorem step_if' (f h : Nat → Bool) (k i : Nat) : (if i < k + 1 then h i else f i) = if i = k then h k else (if i < k then h i else f i) := by
  by_cases e : i = k
  · subst e; simp
  · rw [if_neg e]
    by_cases h' : i < k
    · rw [if_pos h', if_pos (by omega)]
    · rw [if_neg h', if_neg (by omega)]

theorem OneAt.box2 (w : World) (t : TypeId) (x y : Value) (W : World) (hx : Below (w.heap.size + 2) ((w.alloc (.cells #[x, y] t)).alloc (.cells #[.int .u64 0, .int .u64 0] t)) W) (f : Nat → Bool) :
    OneAt w (w.heap.size + 1) (W.heap.size + 1) (fun _ => false) ((W.alloc (.cells (bitsA f) 86)).alloc (.cells (bitsA fun _ => false) 86)) := by
  have hs := hx.size
  simp at hs
  exact {
    below := (((Below.refl _ _).alloc (by simp) _).alloc (by simp) _).trans (((hx.mono (by omega)).alloc (by omega) _).alloc (by simp; omega) _)
    nr := by omega
    nx := by omega
    ne := by omega
    lr := by simp; omega
    lx := by simp
    arr := by
      have := BitsAt.new (W.alloc (.cells (bitsA f) 86)) (fun _ => false) 86
      simpa only [World.size_alloc] using this
    r0 := by rw [World.cell?_alloc_past _ _ _ (by simp; omega), World.cell?_alloc_past _ _ _ (by omega), hx.cell (p := ⟨_, _, none⟩) (by simp)]; simp [go_sem]
    r1 := by rw [World.cell?_alloc_past _ _ _ (by simp; omega), World.cell?_alloc_past _ _ _ (by omega), hx.cell (p := ⟨_, _, none⟩) (by simp)]; simp [go_sem]
    q0 := by rw [World.frozen?_alloc_past _ _ _ (by simp; omega), World.frozen?_alloc_past _ _ _ (by omega), hx.frozen (p := ⟨_, _, none⟩) (by simp)]; simp [go_sem]
    q1 := by rw [World.frozen?_alloc_past _ _ _ (by simp; omega), World.frozen?_alloc_past _ _ _ (by omega), hx.frozen (p := ⟨_, _, none⟩) (by simp)]; simp [go_sem] }
theorem BitsAt.src (W : World) (f : Nat → Bool) : BitsAt ((W.alloc (.cells (bitsA f) 86)).alloc (.cells (bitsA fun _ => false) 86)) W.heap.size f :=
  (BitsAt.new W f _).past (by simp) _

theorem vleft_cl (a : Nat) (n : Int) : vleft a (cl n) = vleft a n.toNat := by
  unfold vleft
  by_cases h : n ≤ 128
  · have : cl n = n.toNat := by unfold cl; omega
    rw [this]
  · have e : cl n = 128 := by unfold cl; omega
    obtain ⟨k, hk⟩ : ∃ k, n.toNat = 128 + k := ⟨n.toNat - 128, by omega⟩
    rw [e, hk, Nat.pow_add, ← Nat.mul_assoc, Nat.mul_mod_left, Nat.mul_right_comm, Nat.mul_mod_left]
theorem right_cl (a : Nat) (n : Int) (ha : a < 2 ^ 128) : a / 2 ^ cl n = a / 2 ^ n.toNat := by
  by_cases h : n ≤ 128
  · have : cl n = n.toNat := by unfold cl; omega
    rw [this]
  · have e : cl n = 128 := by unfold cl; omega
    rw [e, Nat.div_eq_of_lt ha, Nat.div_eq_of_lt (Nat.lt_of_lt_of_le ha (Nat.pow_le_pow_right (by decide) (by omega)))]
theorem left_of (a : Nat) (n : Int) (_ha : a < 2 ^ 128) : ofBits (fun i => decide (cl n ≤ i) && decide (i < 128) && a.testBit (i - cl n)) = vleft a n.toNat := by
  rw [← vleft_cl]
  refine ofBits_eq (Nat.mod_lt _ (by decide)) fun i hi => ?_
  rw [vleft, Nat.testBit_mod_two_pow, Nat.testBit_mul_two_pow]
  simp [hi]
theorem rright_of (a : Nat) (n : Int) (ha : a < 2 ^ 128) : ofBits (fun i => decide (i + cl n < 128) && a.testBit (i + cl n)) = a / 2 ^ n.toNat := by
  rw [← right_cl a n ha]
  refine ofBits_eq (Nat.lt_of_le_of_lt (Nat.div_le_self _ _) ha) fun i hi => ?_
  rw [Nat.testBit_div_two_pow]
  by_cases h : i + cl n < 128
  · simp [h]
  · have := Nat.testBit_lt_two_pow (x := a) (i := i + cl n) (Nat.lt_of_lt_of_le ha (Nat.pow_le_pow_right (by decide) (by omega)))
    simp [h, this]

end Go.Proofs.Ythfimcbjbkbcjaa
