/- Layer 7: Same: rows of nodes whatever their values, compared. -/
import Derived.Test.YtodmkmoglchoeaaGreatDoorJYLaw
namespace Go.Proofs.YtodmkmoglchoeaaGreatDoor
open Go.RowKit

/-- a node's seven cells -/
structure NC where
  x0 : Int
  x1 : Int
  x2 : Int
  x3 : ByteArray
  x4 : ByteArray
  x5 : Int
  x6 : Int
def NC.val (c : NC) : Value := .agg #[.int .i64 c.x0, .int .i64 c.x1, .int .i64 c.x2, .string c.x3, .string c.x4, .int .u64 c.x5, .int .u64 c.x6]
def NC.cells (c : NC) : List Value := [.int .i64 c.x0, .int .i64 c.x1, .int .i64 c.x2, .string c.x3, .string c.x4, .int .u64 c.x5, .int .u64 c.x6]
def Nd.nc (n : Nd) : NC := ⟨n.op, n.a, n.b, n.name, n.attr, hi n.val, lo n.val⟩
structure NCR (w : World) (A : Option Addr) (o : List NC) : Prop where
  r : o = [] ∨ ∃ g, A = some ⟨g, 0, none⟩ ∧ g < w.heap.size ∧ ∀ k (hk : k < o.length) j, j < 7 → w.cell? ⟨g, k * 7 + j, none⟩ = ((o[k]'hk).cells)[j]?
theorem NCR.below {w w' : World} {A : Option Addr} {o : List NC} (h : NCR w A o) (hb : Below w.heap.size w w') : NCR w' A o := by
  rcases h.r with h | ⟨g, h1, h2, h3⟩
  · exact ⟨.inl h⟩
  · exact ⟨.inr ⟨g, h1, Nat.lt_of_lt_of_le h2 hb.size, fun k hk j hj => by rw [hb.cell (p := ⟨g, _, none⟩) h2]; exact h3 k hk j hj⟩⟩
end Go.Proofs.YtodmkmoglchoeaaGreatDoor
