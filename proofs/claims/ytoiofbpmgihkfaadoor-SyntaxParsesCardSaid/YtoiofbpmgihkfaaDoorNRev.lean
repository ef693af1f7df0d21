/- slices.Reverse of bytes that the call itself made. -/
import Derived.Test.YtoiofbpmgihkfaaDoorNVal
import Derived.Laws.OwnMore
import Derived.BigRegion
namespace Go.Proofs.YtoiofbpmgihkfaaDoor
open Go.RowKit

theorem grown_trans {w1 w2 w3 : World} {r : Option Nat} (h : w1.grownBy w2 r) (h2 : w2.grownBy w3 r) : w1.grownBy w3 r :=
  ⟨h2.os.trans h.os, h2.tape.trans h.tape, h2.output.trans h.output, Nat.le_trans h.size h2.size, fun k hk hr => (h2.block k (Nat.lt_of_lt_of_le hk h.size) hr).trans (h.block k hk hr)⟩
theorem grown_drew (w : World) (r : Option Nat) : w.grownBy w.drew r := ⟨rfl, rfl, rfl, Nat.le_refl _, fun _ _ _ => rfl⟩
/-- the outer k elements on both sides have changed places -/
def Turned (k : Nat) (xs ys : List Value) : Prop := ys.length = xs.length ∧ ∀ j, j < xs.length → ys[j]? = if j < k ∨ xs.length ≤ j + k then xs[xs.length - 1 - j]? else xs[j]?
theorem Turned.start (xs : List Value) : Turned 0 xs xs := ⟨rfl, fun j hj => by rw [if_neg (by omega)]⟩
theorem Turned.next {k m : Nat} {xs ys : List Value} (h : Turned k xs ys) (hm : k + m + 1 = xs.length) (hk : k < m) (a b : Value) (ha : ys[k]? = some a) (hb : ys[m]? = some b) :
    Turned (k + 1) xs ((ys.set k b).set m a) := by
  have h1 := h.2 k (by omega)
  have h2 := h.2 m (by omega)
  rw [ha, if_neg (by omega)] at h1
  rw [hb, if_neg (by omega)] at h2
  refine ⟨by simpa using h.1, fun j hj => ?_⟩
  have hl := h.1
  have h3 := h.2 j hj
  rw [List.getElem?_set, List.getElem?_set, List.length_set]
  by_cases e1 : m = j
  · subst e1
    rw [if_pos rfl, if_pos (by omega), if_pos (by omega), show xs.length - 1 - m = k by omega, ← h1]
  · by_cases e2 : k = j
    · subst e2
      rw [if_neg e1, if_pos rfl, if_pos (by omega), if_pos (by omega), show xs.length - 1 - k = m by omega, ← h2]
    · rw [if_neg e1, if_neg e2, h3]
      by_cases e3 : j < k ∨ xs.length ≤ j + k
      · rw [if_pos e3, if_pos (by omega)]
      · rw [if_neg e3, if_neg (by omega)]
theorem Turned.done {k m : Nat} {xs ys : List Value} (h : Turned k xs ys) (hm : k + m + 1 = xs.length) (hk : m ≤ k) : ys = xs.reverse := by
  apply List.ext_getElem?
  intro j
  by_cases hj : j < xs.length
  · rw [h.2 j hj, List.getElem?_reverse hj]
    by_cases e3 : j < k ∨ xs.length ≤ j + k
    · rw [if_pos e3]
    · rw [if_neg e3]; congr 1; omega
  · rw [List.getElem?_eq_none (by rw [h.1]; omega), List.getElem?_eq_none (by simp; omega)]
theorem Turned.byte {k j : Nat} {xs ys : List Value} (h : Turned k xs ys) (hx : ∀ j, j < xs.length → ∃ x : Int, xs[j]? = some (.int .u8 x)) (hj : j < xs.length) : ∃ x : Int, ys[j]? = some (.int .u8 x) := by
  rw [h.2 j hj]
  split
  · exact hx _ (by omega)
  · exact hx _ hj
theorem two_addr {g j k : Nat} (h : j ≠ k) : (⟨g, j, none⟩ : Addr) ≠ ⟨g, k, none⟩ := fun e => h (by injection e)
/-- Reverse's end: the row stands the other way round, nothing else has changed. -/
def RetRev (base g cap n : Nat) (xs : List Value) (w : World) (e : Ending) (w' : World) : Prop :=
  e = .returned (.tuple #[]) ∧ w'.ownsRow base 5 1 (.slice (some ⟨g, 0, none⟩) n cap) n xs.reverse ∧ w.grownBy w' (some g)
end Go.Proofs.YtoiofbpmgihkfaaDoor
