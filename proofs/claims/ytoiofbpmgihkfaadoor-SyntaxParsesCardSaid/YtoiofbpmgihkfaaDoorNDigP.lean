/- Lists of decimal digits: sums, differences, order, leading zeros: no program in sight. -/
import Derived.Test.YtoiofbpmgihkfaaDoorNDig
namespace Go.Proofs.YtoiofbpmgihkfaaDoor
open Go.RowKit

/-- what digits are worth, the lowest one first -/
def dv : List Nat → Nat
  | [] => 0
  | d :: t => d + 10 * dv t
def Sm (l : List Nat) : Prop := ∀ x ∈ l, x < 10
theorem dv_append (a b : List Nat) : dv (a ++ b) = dv a + 10 ^ a.length * dv b := by
  induction a with
  | nil => simp [dv]
  | cons d t ih => simp only [List.cons_append, dv, ih, List.length_cons, Nat.pow_succ]; rw [Nat.mul_add, ← Nat.mul_assoc, Nat.mul_comm (10 ^ t.length) 10]; omega
theorem dv_snoc (a : List Nat) (d : Nat) : dv (a ++ [d]) = dv a + 10 ^ a.length * d := by rw [dv_append]; simp [dv]
theorem dv_lt {l : List Nat} (h : Sm l) : dv l < 10 ^ l.length := by
  induction l with
  | nil => simp [dv]
  | cons d t ih =>
    have h1 := ih (fun x hx => h x (List.mem_cons_of_mem _ hx))
    have h2 := h d (List.mem_cons_self ..)
    simp only [dv, List.length_cons, Nat.pow_succ]
    omega
theorem dv_dg (n : Nat) : dv (dg n) = n := by
  induction n using Nat.strongRecOn with
  | ind n ih =>
    by_cases h : n < 10
    · rw [dg_lo h]; simp [dv]
    · rw [dg_hi h]; simp only [dv]; rw [ih _ (by omega)]; omega
/-- the digits of n without leading zeros, none of 0 -/
def cd (n : Nat) : List Nat := if n = 0 then [] else dg n
theorem cd_0 : cd 0 = [] := by simp [cd]
theorem dv_cd (n : Nat) : dv (cd n) = n := by
  unfold cd; split
  · rename_i h; rw [h]; rfl
  · exact dv_dg n
theorem sm_cd (n : Nat) : Sm (cd n) := by
  unfold cd; split
  · intro x hx; cases hx
  · exact dg_lt n
theorem sm_take {l : List Nat} (h : Sm l) (k : Nat) : Sm (l.take k) := fun x hx => h x (List.mem_of_mem_take hx)
theorem sm_getD {l : List Nat} (h : Sm l) (k : Nat) : l.getD k 0 < 10 := by
  rw [List.getD_eq_getElem?_getD]
  cases e : l[k]? with
  | none => simp
  | some x => exact h x (List.mem_of_getElem? e)
theorem sm_snoc {l : List Nat} (h : Sm l) {d : Nat} (hd : d < 10) : Sm (l ++ [d]) := by
  intro x hx
  rcases List.mem_append.1 hx with hx | hx
  · exact h x hx
  · simp at hx; omega
theorem dv_take (l : List Nat) (k : Nat) : dv (l.take (k + 1)) = dv (l.take k) + 10 ^ k * l.getD k 0 := by
  by_cases h : k < l.length
  · rw [List.take_succ_eq_append_getElem h, dv_snoc, List.length_take, Nat.min_eq_left (by omega), List.getD_eq_getElem?_getD, List.getElem?_eq_getElem h]; rfl
  · rw [List.take_of_length_le (by omega), List.take_of_length_le (by omega), List.getD_eq_getElem?_getD, List.getElem?_eq_none (by omega)]; simp
theorem dv_dg_len (n : Nat) (h : n ≠ 0) : 10 ^ ((dg n).length - 1) ≤ n := by
  induction n using Nat.strongRecOn with
  | ind n ih =>
    by_cases h1 : n < 10
    · rw [dg_lo h1]; simp; omega
    · rw [dg_hi h1]
      have h2 := ih (n / 10) (by omega) (by omega)
      have h3 := dg_pos (n / 10)
      simp only [List.length_cons, Nat.add_sub_cancel]
      obtain ⟨k, hk⟩ : ∃ k, (dg (n / 10)).length = k + 1 := ⟨(dg (n / 10)).length - 1, by omega⟩
      rw [hk] at h2 ⊢
      simp only [Nat.add_sub_cancel] at h2
      rw [Nat.pow_succ]
      omega
theorem cd_len {n k : Nat} (h : n < 10 ^ k) : (cd n).length ≤ k := by
  unfold cd; split
  · simp
  · rename_i h0
    have h1 := dv_dg_len n h0
    have h2 := dg_pos n
    apply Nat.le_of_not_lt
    intro h3
    have : 10 ^ k ≤ 10 ^ ((dg n).length - 1) := Nat.pow_le_pow_right (by decide) (by omega)
    omega
theorem cd_len_lo {n : Nat} (h : n ≠ 0) : 0 < (cd n).length ∧ 10 ^ ((cd n).length - 1) ≤ n := by
  unfold cd; rw [if_neg h]; exact ⟨dg_pos n, dv_dg_len n h⟩
theorem cd_lt_of_len {a b : Nat} (h : (cd a).length < (cd b).length) : a < b := by
  have h1 := dv_lt (sm_cd a)
  rw [dv_cd] at h1
  have hb : b ≠ 0 := fun e => by rw [e, cd_0] at h; simp at h
  have h2 := (cd_len_lo hb).2
  have : 10 ^ (cd a).length ≤ 10 ^ ((cd b).length - 1) := Nat.pow_le_pow_right (by decide) (by omega)
  omega
theorem cd_len_le {a b : Nat} (h : a ≤ b) : (cd a).length ≤ (cd b).length := by
  apply Nat.le_of_not_lt
  intro h2
  have := cd_lt_of_len h2
  omega
/-- digits are told by their worth and their number -/
theorem dv_inj {a b : List Nat} (ha : Sm a) (hb : Sm b) (hl : a.length = b.length) (h : dv a = dv b) : a = b := by
  induction a generalizing b with
  | nil => cases b with
    | nil => rfl
    | cons _ _ => simp at hl
  | cons d t ih => cases b with
    | nil => simp at hl
    | cons e s =>
      have h1 := ha d (List.mem_cons_self ..)
      have h2 := hb e (List.mem_cons_self ..)
      simp only [dv] at h
      have e1 : d = e := by omega
      have e2 := ih (fun x hx => ha x (List.mem_cons_of_mem _ hx)) (fun x hx => hb x (List.mem_cons_of_mem _ hx)) (by simpa using hl) (b := s) (by omega)
      rw [e1, e2]
/-- digits without a leading zero are those of their worth -/
theorem cd_unique {l : List Nat} (h : Sm l) (k : Nat) (hk : l.length = k + 1) (hne : l.getD k 0 ≠ 0) : l = cd (dv l) := by
  have hlt := dv_lt h
  have hge : 10 ^ k ≤ dv l := by
    have e : l = l.take (k + 1) := (List.take_of_length_le (by omega)).symm
    have := dv_take l k
    rw [← e] at this
    have h1 : 10 ^ k * 1 ≤ 10 ^ k * l.getD k 0 := Nat.mul_le_mul_left _ (by omega)
    omega
  have h0 : dv l ≠ 0 := by have := Nat.pow_pos (n := k) (show 0 < 10 by decide); omega
  refine dv_inj h (sm_cd _) ?_ (dv_cd _).symm
  have u := cd_len (n := dv l) (k := l.length) hlt
  obtain ⟨l1, l2⟩ := cd_len_lo h0
  have l3 := dv_lt (sm_cd (dv l))
  rw [dv_cd] at l3
  apply Nat.le_antisymm _ u
  apply Nat.le_of_not_lt
  intro h2
  have : 10 ^ (cd (dv l)).length ≤ 10 ^ k := Nat.pow_le_pow_right (by decide) (by omega)
  omega
/-- a leading zero is worth nothing -/
theorem dv_drop_zero {l : List Nat} {k : Nat} (h : l.getD k 0 = 0) : dv (l.take k) = dv (l.take (k + 1)) := by rw [dv_take, h]; omega
/-- a step of a sum -/
theorem plus_step {o a b p c x y n : Nat} (h : o + c * p = a + b) (hn : n = x + y + c) : (o + p * (n % 10)) + (n / 10) * (p * 10) = (a + p * x) + (b + p * y) := by
  have e : n = 10 * (n / 10) + n % 10 := (Nat.div_add_mod n 10).symm
  have h2 : p * n = p * (x + y + c) := by rw [hn]
  rw [Nat.mul_add, Nat.mul_add] at h2
  have h3 : p * n = p * (10 * (n / 10)) + p * (n % 10) := by rw [← Nat.mul_add]; rw [← e]
  have h4 : (n / 10) * (p * 10) = p * (10 * (n / 10)) := by rw [Nat.mul_comm (n / 10), Nat.mul_assoc]
  rw [h4, Nat.mul_comm c p] at *
  omega
theorem dv_part_lt {l : List Nat} (h : Sm l) (k : Nat) (hk : l.length ≤ k) : dv l < 10 ^ k := Nat.lt_of_lt_of_le (dv_lt h) (Nat.pow_le_pow_right (by decide) hk)
theorem plus_end {o a b c m : Nat} (h : o + c * 10 ^ (m + 1) = a + b) (ha : a < 10 ^ m) (hb : b < 10 ^ m) : o = a + b := by
  have : c = 0 := by
    apply Nat.eq_zero_of_not_pos
    intro hc
    have : 1 * 10 ^ (m + 1) ≤ c * 10 ^ (m + 1) := Nat.mul_le_mul_right _ hc
    rw [Nat.pow_succ] at *
    omega
  rw [this] at h; omega
/-- a step of a difference -/
theorem minus_step {o a b p r x y d r' : Nat} (h : o + b = a + r * p) (hn : d + y + r = x + 10 * r') : (o + p * d) + (b + p * y) = (a + p * x) + r' * (p * 10) := by
  have h2 : p * (d + y + r) = p * (x + 10 * r') := by rw [hn]
  rw [Nat.mul_add, Nat.mul_add, Nat.mul_add] at h2
  have h4 : r' * (p * 10) = p * (10 * r') := by rw [Nat.mul_comm r', Nat.mul_assoc]
  rw [h4]; rw [Nat.mul_comm r p] at h
  omega
theorem minus_end {o a b r m : Nat} (h : o + b = a + r * 10 ^ m) (ho : o < 10 ^ m) (hb : b ≤ a) : o = a - b := by
  have : r = 0 := by
    apply Nat.eq_zero_of_not_pos
    intro hc
    have : 1 * 10 ^ m ≤ r * 10 ^ m := Nat.mul_le_mul_right _ hc
    omega
  rw [this] at h; omega
/-- the first digit from the top at which two part tells which is less -/
theorem dv_part (l : List Nat) (k : Nat) : dv l = dv (l.take (k + 1)) + 10 ^ (k + 1) * dv (l.drop (k + 1)) := by
  by_cases h : k + 1 ≤ l.length
  · have := dv_append (l.take (k + 1)) (l.drop (k + 1))
    rw [List.take_append_drop, List.length_take, Nat.min_eq_left h] at this
    exact this
  · rw [List.take_of_length_le (by omega), List.drop_eq_nil_of_le (by omega)]; simp [dv]
theorem dv_less {a b : List Nat} (ha : Sm a) (_hb : Sm b) (k : Nat) (hd : a.drop (k + 1) = b.drop (k + 1)) (hk : a.getD k 0 < b.getD k 0) : dv a < dv b := by
  rw [dv_part a k, dv_part b k, hd, dv_take, dv_take]
  have h1 : dv (a.take k) < 10 ^ k := by
    have h := dv_lt (sm_take ha k)
    exact Nat.lt_of_lt_of_le h (Nat.pow_le_pow_right (by decide) (by simp; omega))
  have h2 : 10 ^ k * (a.getD k 0 + 1) ≤ 10 ^ k * b.getD k 0 := Nat.mul_le_mul_left _ hk
  rw [Nat.mul_add, Nat.mul_one] at h2
  omega
theorem drop_eq {a b : List Nat} (hl : a.length = b.length) (k : Nat) (hd : a.drop (k + 1) = b.drop (k + 1)) (hk : a.getD k 0 = b.getD k 0) : a.drop k = b.drop k := by
  by_cases h : k < a.length
  · have h2 : k < b.length := by omega
    rw [List.drop_eq_getElem_cons h, List.drop_eq_getElem_cons h2, hd]
    rw [List.getD_eq_getElem?_getD, List.getD_eq_getElem?_getD, List.getElem?_eq_getElem h, List.getElem?_eq_getElem h2] at hk
    congr 1
  · rw [List.drop_eq_nil_of_le (by omega), List.drop_eq_nil_of_le (by omega)]
end Go.Proofs.YtoiofbpmgihkfaaDoor
