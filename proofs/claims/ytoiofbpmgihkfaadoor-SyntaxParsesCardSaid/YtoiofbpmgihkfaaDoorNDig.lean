/- Decimal digits of natural numbers: no program in sight. -/
import Derived.Test.YtoiofbpmgihkfaaDoorNPure
namespace Go.Proofs.YtoiofbpmgihkfaaDoor
open Go.RowKit

/-- the decimal digits of n, the lowest one first, at least one -/
def dg (n : Nat) : List Nat := if n < 10 then [n] else (n % 10) :: dg (n / 10)
termination_by n
decreasing_by omega
theorem dg_lo {n : Nat} (h : n < 10) : dg n = [n] := by rw [dg, if_pos h]
theorem dg_hi {n : Nat} (h : ¬ n < 10) : dg n = (n % 10) :: dg (n / 10) := by rw [dg, if_neg h]
theorem dg_pos (n : Nat) : 0 < (dg n).length := by
  by_cases h : n < 10
  · rw [dg_lo h]; simp
  · rw [dg_hi h]; simp
theorem dg_lt (n : Nat) : ∀ x ∈ dg n, x < 10 := by
  induction n using Nat.strongRecOn with
  | ind n ih =>
    by_cases h : n < 10
    · rw [dg_lo h]; simp; omega
    · rw [dg_hi h]
      intro x hx
      rcases List.mem_cons.1 hx with rfl | hx
      · omega
      · exact ih _ (by omega) x hx
theorem dg_len (k : Nat) : ∀ n, n < 10 ^ (k + 1) → (dg n).length ≤ k + 1 := by
  induction k with
  | zero => intro n h; rw [dg_lo (by simpa using h)]; simp
  | succ k ih =>
    intro n h
    by_cases h1 : n < 10
    · rw [dg_lo h1]; simp
    · rw [dg_hi h1]
      have := ih (n / 10) (by rw [Nat.pow_succ] at h; omega)
      simpa using this
/-- the bytes of the decimal text of z -/
def tl (z : Int) : List Int := (if z < 0 then [45] else []) ++ ((dg z.natAbs).reverse.map fun d : Nat => 48 + (d : Int))
/-- digits as the bytes that stand for them -/
def tb (ys : List Nat) : List Int := ys.map fun d : Nat => 48 + (d : Int)
theorem tl_eq (z : Int) : tl z = (tb (dg z.natAbs) ++ if z < 0 then [45] else []).reverse := by
  unfold tl tb
  rw [List.reverse_append, ← List.map_reverse]
  split <;> rfl
theorem tb_len (ys : List Nat) : (tb ys).length = ys.length := by simp [tb]
theorem tb_snoc (ys : List Nat) (d : Nat) : tb (ys ++ [d]) = tb ys ++ [48 + (d : Int)] := by simp [tb]
theorem step_dg {ys : List Nat} {r n : Nat} (h : ys ++ dg r = dg n) (hr : ¬ r < 10) : (ys ++ [r % 10]) ++ dg (r / 10) = dg n := by
  rw [← h, dg_hi hr]; simp
theorem last_dg {ys : List Nat} {r n : Nat} (h : ys ++ dg r = dg n) (hr : r < 10) : ys ++ [r % 10] = dg n := by
  rw [← h, dg_lo hr, Nat.mod_eq_of_lt hr]
theorem len_dg {ys : List Nat} {r n : Nat} (h : ys ++ dg r = dg n) (hn : n < 10 ^ 60) : ys.length < 60 := by
  have h1 := dg_len 59 n hn
  have h2 := congrArg List.length h
  have h3 := dg_pos r
  rw [List.length_append] at h2
  omega
end Go.Proofs.YtoiofbpmgihkfaaDoor
