/- Layer 7: Same: rows of nodes whatever their values, compared. -/
import Derived.Test.YtodmkmoglchoeaaDoorJYLaw
namespace Go.Proofs.YtodmkmoglchoeaaDoor
open Go.RowKit

/-- a node's seven cells -/
structure NC where
  x0 : Int
  x1 : Int
  x2 : Int
  x3 : ByteArray
  x4 : ByteArray
  x5 : Int
  x6 : Int
def NC.val (c : NC) : Value := .agg #[.int .i64 c.x0, .int .i64 c.x1, .int .i64 c.x2, .string c.x3, .string c.x4, .int .u64 c.x5, .int .u64 c.x6]
def NC.cells (c : NC) : List Value := [.int .i64 c.x0, .int .i64 c.x1, .int .i64 c.x2, .string c.x3, .string c.x4, .int .u64 c.x5, .int .u64 c.x6]
def Nd.nc (n : Nd) : NC := ⟨n.op, n.a, n.b, n.name, n.attr, hi n.val, lo n.val⟩
theorem nc_cells (n : Nd) : n.nc.cells = ncell n := rfl
structure NCR (w : World) (A : Option Addr) (o : List NC) : Prop where
  r : o = [] ∨ ∃ g, A = some ⟨g, 0, none⟩ ∧ g < w.heap.size ∧ ∀ k (hk : k < o.length) j, j < 7 → w.cell? ⟨g, k * 7 + j, none⟩ = ((o[k]'hk).cells)[j]?
theorem NCR.below {w w' : World} {A : Option Addr} {o : List NC} (h : NCR w A o) (hb : Below w.heap.size w w') : NCR w' A o := by
  rcases h.r with h | ⟨g, h1, h2, h3⟩
  · exact ⟨.inl h⟩
  · exact ⟨.inr ⟨g, h1, Nat.lt_of_lt_of_le h2 hb.size, fun k hk j hj => by rw [hb.cell (p := ⟨g, _, none⟩) h2]; exact h3 k hk j hj⟩⟩
theorem NodR.ncr {w : World} {A : Option Addr} {o : List Nd} (h : NodR w A o) : NCR w A (o.map Nd.nc) := by
  rcases h.r with rfl | ⟨g, h1, h2, h3⟩
  · exact ⟨.inl rfl⟩
  · refine ⟨.inr ⟨g, h1, h2, fun k hk j hj => ?_⟩⟩
    rw [List.length_map] at hk
    rw [List.getElem_map, nc_cells]
    exact h3 k hk j hj
theorem ncr_cells {w : World} {A : Option Addr} {o : List NC} (h : NCR w A o) {k : Nat} {c : NC} (hc : o[k]? = some c) : ∃ g, A = some ⟨g, 0, none⟩ ∧ g < w.heap.size ∧ w.cell? ⟨g, k * 7, none⟩ = some (.int .i64 c.x0) ∧ w.cell? ⟨g, k * 7 + 1, none⟩ = some (.int .i64 c.x1) ∧ w.cell? ⟨g, k * 7 + 2, none⟩ = some (.int .i64 c.x2) ∧ w.cell? ⟨g, k * 7 + 3, none⟩ = some (.string c.x3) ∧ w.cell? ⟨g, k * 7 + 4, none⟩ = some (.string c.x4) ∧ w.cell? ⟨g, k * 7 + 5, none⟩ = some (.int .u64 c.x5) ∧ w.cell? ⟨g, k * 7 + 6, none⟩ = some (.int .u64 c.x6) := by
  obtain ⟨hk, he⟩ := List.getElem?_eq_some_iff.1 hc
  obtain ⟨g, h1, h2, q⟩ := h.r.resolve_left (fun e => by rw [e] at hk; simp at hk)
  rw [he.symm]
  exact ⟨g, h1, h2, q k hk 0 (by decide), q k hk 1 (by decide), q k hk 2 (by decide), q k hk 3 (by decide), q k hk 4 (by decide), q k hk 5 (by decide), q k hk 6 (by decide)⟩
theorem bs_inj {x y : ByteArray} (h : x.toList = y.toList) : x = y := by
  rw [ByteArray.toList_eq, ByteArray.toList_eq] at h
  exact ByteArray.ext (Array.ext' h)
set_option maxRecDepth 100000 in
theorem eqv_any (d : Nat) (a b c e : Int) (w : World) : (Op.equalIn (d + 2) 102 (.agg #[.int .u64 a, .int .u64 b]) (.agg #[.int .u64 c, .int .u64 e])).run Tryd.prog w = if a = c then (if b = e then .ok true w else .ok false w) else .ok false w := by
  have hS : Tryd.prog.underlying 102 = some (.struct (Tryd.prog.fieldsOf 102)) := by kernel_rfl
  rw [show d + 2 = (d + 1) + 1 from rfl, run_equalIn_agg w (d + 1) 102 _ _ hS (by kernel_rfl)]
  simp only [Program.fieldsOf, Tryd.underlying102]
  go_simp
set_option maxRecDepth 100000 in
theorem eqn_no (p q : NC) (h : ¬ p = q) (W : World) : (Op.equalIn 10000 105 p.val q.val).run Tryd.prog W = .ok false W := by
  obtain ⟨x0, x1, x2, x3, x4, x5, x6⟩ := p
  obtain ⟨y0, y1, y2, y3, y4, y5, y6⟩ := q
  have hS : Tryd.prog.underlying 105 = some (.struct (Tryd.prog.fieldsOf 105)) := by kernel_rfl
  have hV : ∀ (d : Nat) (a b c e : Int) (w : World), (Op.equalIn (d + 2) 102 (.agg #[.int .u64 a, .int .u64 b]) (.agg #[.int .u64 c, .int .u64 e])).run Tryd.prog w = if a = c then (if b = e then .ok true w else .ok false w) else .ok false w := eqv_any
  have HH := Lib.hid h
  clear h
  unfold NC.val
  simp only
  rw [show (10000 : Nat) = (9997 + 2) + 1 from rfl, run_equalIn_agg W (9997 + 2) 105 _ _ hS (by kernel_rfl)]
  simp only [Program.fieldsOf, Tryd.underlying105]
  clear hS
  go_simp
  intros
  intro hlast
  subst_vars
  apply HH.out
  congr 1
  all_goals (apply bs_inj; assumption)
theorem eqn_any (p q : NC) : ∃ b : Bool, (b = true ↔ p = q) ∧ ∀ W : World, (Op.equalIn 10000 105 p.val q.val).run Tryd.prog W = .ok b W := by
  by_cases h : p = q
  · subst h
    exact ⟨true, by simp, fun W => eqs_node p.x0 p.x1 p.x2 p.x3 p.x4 p.x5 p.x6 W⟩
  · exact ⟨false, by simp [h], fun W => eqn_no p q h W⟩
def SaysN (xs ys : List NC) (w : World) (e : Ending) (w' : World) : Prop := ∃ b : Bool, e = .returned (.bool b) ∧ (b = true ↔ xs = ys) ∧ Below w.heap.size w w'
theorem take_eqN {α : Type} {xs ys : List α} {k : Nat} {x y : α} (h : xs.take k = ys.take k) (hx : xs[k]? = some x) (hy : ys[k]? = some y) (e : x = y) : xs.take (k + 1) = ys.take (k + 1) := by
  obtain ⟨a1, a2⟩ := List.getElem?_eq_some_iff.1 hx
  obtain ⟨b1, b2⟩ := List.getElem?_eq_some_iff.1 hy
  rw [List.take_succ_eq_append_getElem a1, List.take_succ_eq_append_getElem b1, h, a2, b2, e]
theorem ne_atN {α : Type} {xs ys : List α} {k : Nat} {x y : α} (hx : xs[k]? = some x) (hy : ys[k]? = some y) (e : ¬ x = y) : ¬ xs = ys := fun h => e (by rw [h, hy] at hx; injection hx with hx; exact hx.symm)
/-- what parsed returns, its parts by letters -/
def RetPo (o : List Nd) (m : Nat) (b : Bool) (w : World) (e : Ending) (w' : World) : Prop := ∃ A c A' c', e = .returned (.tuple #[.slice A m c, .slice A' m c', .bool true, .bool b]) ∧ m ≤ c ∧ m ≤ c' ∧ NodR w' A o ∧ NodR w' A' o ∧ Below w.heap.size w w'
theorem pTree_len (s : ByteArray) : (pTree s).length ≤ 400 := by
  unfold pTree
  split
  · exact Nat.le_trans (parse_len _) (scan_len s)
  · exact Nat.zero_le _
end Go.Proofs.YtodmkmoglchoeaaDoor
