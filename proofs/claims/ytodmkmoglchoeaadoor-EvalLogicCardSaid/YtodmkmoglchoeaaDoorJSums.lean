/- Contracts, joined: Sum, Sums. -/
import Derived.Test.YtodmkmoglchoeaaDoorJBits
import Derived.Test.YtodmkmoglchoeaaDoorRings
import Derived.BigRegion
import Derived.Test.YtodmkmoglchoeaaDoorRef
import Derived.Deep.DeepCutAuto
namespace Go.Proofs.YtodmkmoglchoeaaDoor
/- matchguardref01.sum: the bits of a sum. -/
section
open Go.RowKit

/-- The carry into bit i. -/
def car (a b : Nat) (c : Bool) (i : Nat) : Bool := decide (2 ^ i ≤ a % 2 ^ i + b % 2 ^ i + c.toNat)
set_option maxRecDepth 100000 in
theorem car_0 (a b : Nat) (c : Bool) : car a b c 0 = c := by
  unfold car
  rw [Nat.pow_zero, Nat.mod_one, Nat.mod_one]
  cases c <;> rfl
set_option maxRecDepth 100000 in
theorem div_one_of {r P : Nat} (h1 : P ≤ r) (h2 : r < 2 * P) : r / P = 1 := by
  have hP : 0 < P := by omega
  have e : r = P * 1 + (r - P) := by omega
  rw [e, Nat.mul_add_div hP, Nat.div_eq_of_lt (by omega)]
set_option maxRecDepth 100000 in
theorem parity (A B : Nat) (s : Bool) : decide ((A + B + s.toNat) % 2 = 1) = (decide (A % 2 = 1) ^^ decide (B % 2 = 1) ^^ s) := by
  rcases Nat.mod_two_eq_zero_or_one A with h1 | h1 <;> rcases Nat.mod_two_eq_zero_or_one B with h2 | h2 <;> cases s <;> simp [Nat.add_mod, h1, h2]
set_option maxRecDepth 100000 in
theorem r_lt {x y P : Nat} {c : Bool} (hx : x < P) (hy : y < P) : x + y + c.toNat < 2 * P := by
  cases c <;> simp <;> omega
set_option maxRecDepth 100000 in
theorem bit_sum (a b i : Nat) (c : Bool) : (a + b + c.toNat).testBit i = (a.testBit i ^^ b.testBit i ^^ car a b c i) := by
  rw [Nat.testBit_eq_decide_div_mod_eq, Nat.testBit_eq_decide_div_mod_eq, Nat.testBit_eq_decide_div_mod_eq, car]
  have hP : 0 < 2 ^ i := Nat.two_pow_pos i
  generalize 2 ^ i = P at hP ⊢
  have ha := Nat.div_add_mod a P
  have hb := Nat.div_add_mod b P
  have ra := Nat.mod_lt a hP
  have rb := Nat.mod_lt b hP
  have hc : c.toNat ≤ 1 := by cases c <;> decide
  have e : a + b + c.toNat = P * (a / P + b / P) + (a % P + b % P + c.toNat) := by rw [Nat.mul_add]; omega
  rw [e, Nat.mul_add_div hP]
  have p := parity (a / P) (b / P) (decide (P ≤ a % P + b % P + c.toNat))
  rw [← p]
  by_cases h : P ≤ a % P + b % P + c.toNat
  · rw [div_one_of h (r_lt ra rb), decide_eq_true h]; rfl
  · rw [Nat.div_eq_of_lt (Nat.lt_of_not_le h), decide_eq_false h]; rfl
/-- How many of three are true. -/
def cnt (u v c : Bool) : Nat := u.toNat + v.toNat + c.toNat
set_option maxRecDepth 100000 in
theorem car_succ (a b i : Nat) (c : Bool) : car a b c (i + 1) = decide (1 < cnt (a.testBit i) (b.testBit i) (car a b c i)) := by
  rw [Nat.testBit_eq_decide_div_mod_eq, Nat.testBit_eq_decide_div_mod_eq]
  unfold car cnt
  have hP : 0 < 2 ^ i := Nat.two_pow_pos i
  rw [Nat.pow_succ]
  generalize 2 ^ i = P at hP ⊢
  rw [Nat.mod_mul, Nat.mod_mul]
  have ra := Nat.mod_lt a hP
  have rb := Nat.mod_lt b hP
  have hc : c.toNat ≤ 1 := by cases c <;> decide
  have h1 : a / P % 2 = 0 ∨ a / P % 2 = 1 := by omega
  have h2 : b / P % 2 = 0 ∨ b / P % 2 = 1 := by omega
  rcases h1 with h1 | h1 <;> rcases h2 with h2 | h2 <;> rw [h1, h2] <;> by_cases h : P ≤ a % P + b % P + c.toNat <;> simp [h] <;> omega

set_option maxRecDepth 100000 in
theorem cnt_odd (u v c : Bool) : (((cnt u v c : Nat) : Int) % 2 == 1) = (u ^^ v ^^ c) := by cases u <;> cases v <;> cases c <;> rfl
set_option maxRecDepth 100000 in
theorem cnt_big (u v c : Bool) : decide ((1 : Int) < ((cnt u v c : Nat) : Int)) = decide (1 < cnt u v c) := by rw [decide_eq_decide]; omega
/-- How many of the first j of three are true. -/
def cntTo (u v c : Bool) (j : Nat) : Nat := (if 0 < j then u.toNat else 0) + (if 1 < j then v.toNat else 0) + (if 2 < j then c.toNat else 0)
def third (u v c : Bool) (j : Nat) : Bool := if j = 0 then u else if j = 1 then v else c
set_option maxRecDepth 100000 in
theorem cntTo_succ (u v c : Bool) (j : Nat) (h : j < 3) : cntTo u v c (j + 1) = cntTo u v c j + (third u v c j).toNat := by
  have : j = 0 ∨ j = 1 ∨ j = 2 := by omega
  rcases this with rfl | rfl | rfl <;> simp [cntTo, third]
set_option maxRecDepth 100000 in
theorem cntTo_le (u v c : Bool) (j : Nat) : cntTo u v c j ≤ 3 := by
  unfold cntTo
  have hu : u.toNat ≤ 1 := by cases u <;> decide
  have hv : v.toNat ≤ 1 := by cases v <;> decide
  have hc : c.toNat ≤ 1 := by cases c <;> decide
  split <;> split <;> split <;> omega
set_option maxRecDepth 100000 in
theorem cntTo_3 (u v c : Bool) : cntTo u v c 3 = cnt u v c := by simp [cntTo, cnt]

/-- Bit i of the sum, of m bits. -/
def sumB (a b : Nat) (c : Bool) (m i : Nat) : Bool := decide (i < m) && (a.testBit i ^^ b.testBit i ^^ car a b c i)
structure SumAtR (w : World) (a b : Nat) (c : Bool) (k : Nat) (w' : World) : Prop where
  below : Below w.heap.size w w'
  size : w.heap.size + 4 ≤ w'.heap.size
  x : BitsAt w' w.heap.size a.testBit
  y : BitsAt w' (w.heap.size + 1) b.testBit
  res : BitsAt w' (w.heap.size + 2) fun _ => false
  out : BitsAt w' (w.heap.size + 3) (sumB a b c k)
set_option maxRecDepth 100000 in
theorem SumAtR.step {w : World} {a b : Nat} {c : Bool} {k : Nat} {W W' : World} (h : SumAtR w a b c k W) (hx : Below W.heap.size W W') : SumAtR w a b c k W' := by
  have hs := h.size
  exact ⟨h.below.trans (hx.mono h.below.size), Nat.le_trans hs hx.size, h.x.below hx (by omega), h.y.below hx (by omega), h.res.below hx (by omega), h.out.below hx (by omega)⟩
set_option maxRecDepth 100000 in
theorem SumAtR.put {w : World} {a b : Nat} {c : Bool} {k : Nat} {W : World} (h : SumAtR w a b c k W) (hk : k < 128) (v : Bool) (hv : v = (a.testBit k ^^ b.testBit k ^^ car a b c k)) : SumAtR w a b c (k + 1) (W.setCell ⟨w.heap.size + 3, k, none⟩ (.bool v)) where
  below := h.below.setCell (by simp) _
  size := by have := h.size; simpa [World.setCell] using this
  x := h.x.far _ (by simp) _
  y := h.y.far _ (by simp) _
  res := h.res.far _ (by simp) _
  out := h.out.put k hk v fun i _ => by
    subst hv
    unfold sumB
    by_cases e : i = k
    · subst e; simp
    · rw [if_neg e]
      congr 1
      rw [decide_eq_decide]; omega

set_option maxRecDepth 100000 in
theorem add_of (a b : Nat) (n : Int) : ofBits (sumB a b false (cl n)) = vadd n a b := by
  have hc := cl_le n
  refine ofBits_eq (vadd_lt n a b) fun i hi => ?_
  have := bit_sum a b i false
  rw [vadd, Nat.testBit_mod_two_pow, sumB, ← this]
  rfl
theorem sub_of (a b : Nat) (n : Int) (ha : a < 2 ^ 128) (hb : b < 2 ^ 128) : ofBits (sumB a (ones 128 &&& compl b) true (cl n)) = vsub n a b := by
  have hc := cl_le n
  have hn : (ones 128 &&& compl b) + 1 = 2 ^ 128 - b := by
    have e : ones 128 &&& compl b = 2 ^ 128 - 1 - b := by
      unfold ones compl
      rw [cl_128, Nat.and_comm, Nat.and_two_pow_sub_one_eq_mod, Nat.mod_eq_of_lt hb]
      omega
    rw [e]; omega
  have hv : vsub n a b = (a + (ones 128 &&& compl b) + true.toNat) % 2 ^ cl n := by
    unfold vsub
    congr 1
    show _ = a + (ones 128 &&& compl b) + 1
    omega
  refine ofBits_eq ?_ fun i hi => ?_
  · unfold vsub
    exact Nat.lt_of_lt_of_le (Nat.mod_lt _ (Nat.two_pow_pos _)) (Nat.pow_le_pow_right (by decide) hc)
  · rw [hv, Nat.testBit_mod_two_pow, bit_sum, sumB]
end
/- matchguardref01.Add and Sub: what they return. -/
section
open Go.RowKit

/-- A result's block that nothing has been stored into. -/
structure ResAtS (W : World) (r : Nat) : Prop where
  lt : r < W.heap.size
  r0 : W.cell? ⟨r, 0, none⟩ = some (.int .u64 0)
  r1 : W.cell? ⟨r, 1, none⟩ = some (.int .u64 0)
  q0 : W.frozen? ⟨r, 0, none⟩ = false
  q1 : W.frozen? ⟨r, 1, none⟩ = false
set_option maxRecDepth 100000 in
theorem ResAtS.call {W W' : World} {r : Nat} (h : ResAtS W r) (hx : Below W.heap.size W W') : ResAtS W' r :=
  ⟨Nat.lt_of_lt_of_le h.lt hx.size, by rw [hx.cell (p := ⟨_, _, none⟩) h.lt]; exact h.r0, by rw [hx.cell (p := ⟨_, _, none⟩) h.lt]; exact h.r1, by rw [hx.frozen (p := ⟨_, _, none⟩) h.lt]; exact h.q0, by rw [hx.frozen (p := ⟨_, _, none⟩) h.lt]; exact h.q1⟩
set_option maxRecDepth 100000 in
theorem keepN {W0 W : World} {n p q : Nat} {x0 x1 y0 y1 : Value} (hp : p < n) (hq : q < n) (c0 : W0.cell? ⟨p, 0, none⟩ = some x0) (c1 : W0.cell? ⟨p, 1, none⟩ = some x1) (c2 : W0.cell? ⟨q, 0, none⟩ = some y0) (c3 : W0.cell? ⟨q, 1, none⟩ = some y1) (hb : Below n W0 W) :
    Below n W0 W ∧ W.cell? ⟨p, 0, none⟩ = some x0 ∧ W.cell? ⟨p, 1, none⟩ = some x1 ∧ W.cell? ⟨q, 0, none⟩ = some y0 ∧ W.cell? ⟨q, 1, none⟩ = some y1 :=
  ⟨hb, by rw [hb.cell (p := ⟨_, _, none⟩) hp]; exact c0, by rw [hb.cell (p := ⟨_, _, none⟩) hp]; exact c1, by rw [hb.cell (p := ⟨_, _, none⟩) hq]; exact c2, by rw [hb.cell (p := ⟨_, _, none⟩) hq]; exact c3⟩
set_option maxRecDepth 100000 in
theorem belowCallN {W0 W W' : World} {n : Nat} {R : Prop} (hn : n ≤ W0.heap.size) (hx : Below W.heap.size W W') (h : Below n W0 W ∧ R) : Below n W0 W' := h.1.trans (hx.mono (Nat.le_trans hn h.1.size))
end
end Go.Proofs.YtodmkmoglchoeaaDoor
