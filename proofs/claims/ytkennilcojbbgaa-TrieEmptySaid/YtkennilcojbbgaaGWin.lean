/- Who wins: the program's Beats. -/
import Derived.Test.YtkennilcojbbgaaGBeat
namespace Go.Proofs.Ytkennilcojbbgaa
open Go.RowKit

/-- Who wins, by priority, prefix and number. -/
def beatsE (ts : List TableD) (a b : EntryD) (na nb : Int) : Bool := if a.prio = b.prio then (if preE ts a = preE ts b then decide (nb < na) else decide (preE ts b < preE ts a)) else decide (b.prio < a.prio)
theorem beats_fst (ts : List TableD) (a b : EntryD) (na nb : Int) : beatsE ts a b na nb = decide (0 < fstNZ [sgI a.prio b.prio, sgI (preE ts a) (preE ts b), sgI na nb]) := by
  unfold beatsE
  simp only [fstNZ]
  generalize preE ts a = x
  generalize preE ts b = y
  generalize a.prio = x1
  generalize b.prio = y1
  unfold sgI
  rcases Int.lt_trichotomy x1 y1 with h | h | h <;> rcases Int.lt_trichotomy x y with h2 | h2 | h2 <;> rcases Int.lt_trichotomy na nb with h3 | h3 | h3 <;>
    simp [h, h2, h3, Int.lt_irrefl, Int.ne_of_lt, Int.ne_of_gt, Int.lt_asymm] <;> (try simp only [Int.lt_asymm h, if_false]) <;> (try omega) <;> simp_all <;> omega
theorem below_alloc {W0 W : World} (h : Below W0.heap.size W0 W) (o : Obj) : Below W0.heap.size W0 (W.alloc o) := h.alloc h.size _
theorem below_call {W0 W W' : World} (h : Below W0.heap.size W0 W) (h2 : Below W.heap.size W W') : Below W0.heap.size W0 W' := h.trans (h2.mono h.size)
end Go.Proofs.Ytkennilcojbbgaa
