/- New at any limit up to 120, its result in one word. -/
import Derived.Test.YtodmkmoglchoeaaDoorLSame
namespace Go.Proofs.YtodmkmoglchoeaaDoor
open Go.RowKit

def RetNw (W : World) (e : Ending) (w' : World) : Prop := ∃ D l, e = .returned (.pointer (some ⟨W.heap.size, 0, none⟩)) ∧ Below W.heap.size W w' ∧ CoAt W.heap.size D l 0 w'
theorem readsL_below {w w' : World} {D : Nat} {A : Option Addr} {l : List Nat} (h : ReadsL w D A l) (hb : Below w.heap.size w w') : ReadsL w' D A l := by
  rcases h with h | ⟨o, h1, h2⟩
  · exact .inl h
  · refine .inr ⟨o, h1, Nat.lt_of_lt_of_le h2.1 hb.size, fun i hi => ?_⟩
    rw [hb.cell (p := ⟨D, _, none⟩) h2.1]
    exact h2.2 i hi
theorem nw_lim (L : Nat) (hL : L ≤ 120) {w : World} {A : Option Addr} {D n cap : Nat} {l : List Nat} (hr : ReadsL w D A l) (hD : l ≠ [] → D < w.heap.size) (hl : l.length = n) (hn : n ≤ cap) (hcap : cap ≤ maxLen) (hs : Small l) (W : World) (hb : Below w.heap.size w W) :
    Calls Tryd.prog 12 #[.slice A n cap, .int .i64 (L : Int)] W (RetNw W) :=
  (conew_lim L hL A D n cap l W (readsL_below hr hb) (fun e => Nat.lt_of_lt_of_le (hD e) hb.size) hl hn hcap hs).mono fun _ _ ⟨h1, h2, _, h4⟩ => ⟨D, l.take L, h1, h2, h4⟩
end Go.Proofs.YtodmkmoglchoeaaDoor
