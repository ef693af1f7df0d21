/- Contracts, joined: YLaw1, YBeg. -/
import Derived.Test.YtodmkmoglchoeaaDoorJYPar
import Derived.Test.YtodmkmoglchoeaaDoorJLW
import Derived.Laws.StructEq
namespace Go.Proofs.YtodmkmoglchoeaaDoor
/- Layer 7's laws: same, parsed. -/
section
open Go.RowKit

set_option maxRecDepth 100000 in
theorem eqv_same (d : Nat) (a b : Int) (w : World) : (Op.equalIn (d + 2) 102 (.agg #[.int .u64 a, .int .u64 b]) (.agg #[.int .u64 a, .int .u64 b])).run Tryd.prog w = .ok true w := by
  have hS : Tryd.prog.underlying 102 = some (.struct (Tryd.prog.fieldsOf 102)) := by kernel_rfl
  rw [show d + 2 = (d + 1) + 1 from rfl, run_equalIn_agg w (d + 1) 102 _ _ hS (by kernel_rfl)]
  simp only [Program.fieldsOf, Tryd.underlying102]
  go_simp
set_option maxRecDepth 100000 in
theorem eqs_node (x0 x1 x2 : Int) (x3 x4 : ByteArray) (x5 x6 : Int) (w : World) : (Op.equalIn 10000 105 (.agg #[.int .i64 x0, .int .i64 x1, .int .i64 x2, .string x3, .string x4, .int .u64 x5, .int .u64 x6]) (.agg #[.int .i64 x0, .int .i64 x1, .int .i64 x2, .string x3, .string x4, .int .u64 x5, .int .u64 x6])).run Tryd.prog w = .ok true w := by
  have hS : Tryd.prog.underlying 105 = some (.struct (Tryd.prog.fieldsOf 105)) := by kernel_rfl
  have hV : ∀ (d : Nat) (a b : Int) (w : World), (Op.equalIn (d + 2) 102 (.agg #[.int .u64 a, .int .u64 b]) (.agg #[.int .u64 a, .int .u64 b])).run Tryd.prog w = .ok true w := eqv_same
  rw [show (10000 : Nat) = (9997 + 2) + 1 from rfl, run_equalIn_agg w (9997 + 2) 105 _ _ hS (by kernel_rfl)]
  simp only [Program.fieldsOf, Tryd.underlying105]
  clear hS
  go_simp
theorem nod_cells {w : World} {A : Option Addr} {o : List Nd} (h : NodR w A o) {k : Nat} (hk : k < o.length) : ∃ g, A = some ⟨g, 0, none⟩ ∧ g < w.heap.size ∧ w.cell? ⟨g, k * 7, none⟩ = some (.int .i64 ((o[k]'hk).op : Nat)) ∧ w.cell? ⟨g, k * 7 + 1, none⟩ = some (.int .i64 ((o[k]'hk).a : Nat)) ∧ w.cell? ⟨g, k * 7 + 2, none⟩ = some (.int .i64 ((o[k]'hk).b : Nat)) ∧ w.cell? ⟨g, k * 7 + 3, none⟩ = some (.string (o[k]'hk).name) ∧ w.cell? ⟨g, k * 7 + 4, none⟩ = some (.string (o[k]'hk).attr) ∧ w.cell? ⟨g, k * 7 + 5, none⟩ = some (.int .u64 (hi (o[k]'hk).val)) ∧ w.cell? ⟨g, k * 7 + 6, none⟩ = some (.int .u64 (lo (o[k]'hk).val)) := by
  obtain ⟨g, h1, h2, q⟩ := h.r.resolve_left (fun e => by rw [e] at hk; simp at hk)
  exact ⟨g, h1, h2, q k hk 0 (by decide), q k hk 1 (by decide), q k hk 2 (by decide), q k hk 3 (by decide), q k hk 4 (by decide), q k hk 5 (by decide), q k hk 6 (by decide)⟩
/-- an accepted text's tokens -/
theorem scan_tokOk (s : ByteArray) (h : (scan s).2.2 = 0) : TokOk (scan s).1 := by
  refine ⟨fun t ht => ?_, fun t ht hk => ?_, scan_len s⟩
  · have h1 := ((scan_plcd s h).fit t ht).1
    have h2 : s.size ≤ 400 := by
      rcases Nat.lt_or_ge 400 s.size with h4 | h4
      · unfold scan at h; rw [if_pos h4] at h; cases h
      · exact h4
    omega
  · rcases (scan_good s t ht).is with ⟨h1, h2, _⟩ | ⟨h1, _⟩
    · rw [hk] at h1
      unfold kindN at h1
      split at h1
      · cases h1
      · split at h1
        · rename_i h3; exact h3
        · cases h1
    · rw [hk] at h1; cases h1
/-- the tree of a text; none if it is no sentence -/
def pTree (s : ByteArray) : List Nd := if (scan s).2.2 = 0 then (parse (scan s).1).1 else []
def pOk (s : ByteArray) : Bool := decide ((scan s).2.2 = 0) && decide ((parse (scan s).1).2.2 = 0)
theorem ifTr (x y : List Nd) : (if True then x else y) = x := if_pos trivial
def RetPd (s : ByteArray) (w : World) (e : Ending) (w' : World) : Prop := ∃ A c A' c', e = .returned (.tuple #[.slice A (pTree s).length c, .slice A' (pTree s).length c', .bool true, .bool (pOk s)]) ∧ (pTree s).length ≤ c ∧ (pTree s).length ≤ c' ∧ NodR w' A (pTree s) ∧ NodR w' A' (pTree s) ∧ Below w.heap.size w w'
theorem parse_len (l : List Tok) : (parse l).1.length ≤ l.length := by
  unfold parse
  have := (pRun_len l).1
  split
  · exact Nat.zero_le _
  · split
    · exact Nat.zero_le _
    · exact this
end
/- Layer 7's begun: the chapter's example. -/
section
open Go.RowKit

def exY : ByteArray := ⟨#[33, 97, 32, 38, 38, 32, 98, 32, 45, 62, 32, 99]⟩
def exYT : List Tok := [⟨3, ⟨#[33]⟩, 0⟩, ⟨2, ⟨#[97]⟩, 1⟩, ⟨3, ⟨#[38, 38]⟩, 3⟩, ⟨2, ⟨#[98]⟩, 6⟩, ⟨3, ⟨#[45, 62]⟩, 8⟩, ⟨2, ⟨#[99]⟩, 11⟩]
def exYO : List Nd := [⟨3, 0, 0, ⟨#[97]⟩, ⟨#[]⟩, 0⟩, ⟨5, 0, 0, ⟨#[]⟩, ⟨#[]⟩, 0⟩, ⟨3, 0, 0, ⟨#[98]⟩, ⟨#[]⟩, 0⟩, ⟨14, 1, 2, ⟨#[]⟩, ⟨#[]⟩, 0⟩, ⟨3, 0, 0, ⟨#[99]⟩, ⟨#[]⟩, 0⟩, ⟨16, 3, 4, ⟨#[]⟩, ⟨#[]⟩, 0⟩]
set_option maxRecDepth 1000000 in
theorem exY_scan : scan exY = (exYT, 0, 0) := by kernel_rfl
set_option maxRecDepth 1000000 in
theorem exY_parse : parse exYT = (exYO, 0, 0) := by kernel_rfl
end
end Go.Proofs.YtodmkmoglchoeaaDoor
