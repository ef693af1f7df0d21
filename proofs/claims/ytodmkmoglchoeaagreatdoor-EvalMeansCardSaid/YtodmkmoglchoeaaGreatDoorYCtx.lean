/- Layer 7, pure: parentheses around a sentence change nothing. -/
import Derived.Test.YtodmkmoglchoeaaGreatDoorJYLaw
namespace Go.Proofs.YtodmkmoglchoeaaGreatDoor
open Go.RowKit

theorem bad_back {l : List Tok} {p q : PS} (w : Went l p q) (h : q.bad = false) : p.bad = false := by
  cases hh : p.bad
  · rfl
  · have := (w.bad hh).1; rw [h] at this; cases this
theorem ba_ext {s t : ByteArray} (h : bl s = bl t) : s = t := by
  apply ByteArray.ext; apply Array.ext'; exact h
end Go.Proofs.YtodmkmoglchoeaaGreatDoor
