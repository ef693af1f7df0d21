/- EntryOrders: the list of entries. -/
import Derived.Test.YthldelnibgdnaaaGOrdP
import Derived.Test.YthldelnibgdnaaaGOrdE
import Derived.Test.YthldelnibgdnaaaGOrdS
import Derived.Test.YthldelnibgdnaaaGEnts
namespace Go.Proofs.Ythldelnibgdnaaa
open Go.RowKit
def Rng {α : Type} (f : α → α → Int) : Prop := ∀ x y, -1 ≤ f x y ∧ f x y ≤ 1
theorem rng_sg : Rng sgI := fun x y => by unfold sgI; split <;> (try split) <;> omega
theorem rng_cmp : Rng cmp := fun x y => by unfold cmp; split <;> (try split) <;> omega
theorem rng_tru : Rng truI := fun x y => by unfold truI; cases x <;> cases y <;> simp
theorem rng_mat : Rng matI := fun x y => by
  unfold matI
  have h0 := rng_tru x.pres y.pres
  have h1 := rng_cmp x.val y.val
  have h2 := rng_cmp x.mask y.mask
  have h3 := rng_sg x.pre y.pre
  have h4 := rng_cmp x.high y.high
  split
  · assumption
  · split
    · assumption
    · split
      · assumption
      · split <;> assumption
theorem rng_lex {α : Type} {f : α → α → Int} (hf : Rng f) : ∀ (xs ys : List α), -1 ≤ lexI f xs ys ∧ lexI f xs ys ≤ 1
  | [], [] => by simp [lexI]
  | [], _ :: _ => by simp [lexI]
  | _ :: _, [] => by simp [lexI]
  | x :: xs, y :: ys => by
    unfold lexI
    have := hf x y
    have := rng_lex hf xs ys
    split <;> assumption
theorem rng_ent (a b : EntryD) : -1 ≤ entI a b ∧ entI a b ≤ 1 := by
  rw [ent_eq]
  have h0 := rng_sg a.table b.table
  have h1 := rng_sg b.prio a.prio
  have h2 := rng_lex rng_mat a.ms b.ms
  have h3 := rng_sg a.action b.action
  have h4 := rng_lex rng_cmp a.args b.args
  split
  · split
    · split
      · split <;> assumption
      · assumption
    · assumption
  · assumption
/-- the list of entries in memory: its cells, and where the entries' rows lie -/
structure LiE (es : List EntX) (B g : Nat) (W : World) : Prop where
  gl : g < B
  cells : ∀ i y j u, es[i]? = some y → y.cells[j]? = some u → W.cell? ⟨g, i * 5 + j, none⟩ = some u
  rows : ∀ y ∈ es, RowV 8 MatchV B W y.v y.d.ms ∧ RowV 2 ValV B W y.u y.d.args
theorem LiE.below {es : List EntX} {B g : Nat} {W W' : World} (h : LiE es B g W) (hb : Below B W W') : LiE es B g W' :=
  ⟨h.gl, fun i y j u h1 h2 => (World.cell?_of_block (hb.block g h.gl)).trans (h.cells i y j u h1 h2), fun y hy => ⟨(h.rows y hy).1.below kept_match hb, (h.rows y hy).2.below kept_val hb⟩⟩
theorem flatX_get (es : List EntX) (i j : Nat) (y : EntX) (u : Value) (hy : es[i]? = some y) (hj : j < 5) (hu : y.cells[j]? = some u) : (es.flatMap EntX.cells)[i * 5 + j]? = some u := by
  have := flatM_get (sz := 5) (es.map fun y => (y.cells, y)) (fun q hq => by obtain ⟨y, _, rfl⟩ := List.mem_map.1 hq; rfl) i j (y.cells, y) (by rw [List.getElem?_map, hy]; rfl) hj
  rw [List.flatMap_map] at this
  rw [← hu]
  exact this
theorem LiE.of_own {es : List EntX} {base g nn c : Nat} {W : World} (h : W.ownsRow base 26 5 (.slice (some ⟨g, 0, none⟩) nn c) nn (es.flatMap EntX.cells)) (hn : es.length = nn) (hr : ∀ y ∈ es, RowV 8 MatchV W.heap.size W y.v y.d.ms ∧ RowV 2 ValV W.heap.size W y.u y.d.args) : LiE es W.heap.size g W :=
  ⟨(World.ownsRow.lt h g rfl).2, fun i y j u hy hu => by
    have hj : j < 5 := by have := (List.getElem?_eq_some_iff.1 hu).1; exact this
    have hi := (List.getElem?_eq_some_iff.1 hy).1
    rw [World.ownsRow.cellAt h (i * 5 + j) (by omega)]
    exact flatX_get es i j y u hy hj hu, hr⟩
theorem LiE.ent {es : List EntX} {B g : Nat} {W : World} (h : LiE es B g W) {y z : EntX} (hy : y ∈ es) (hz : z ∈ es) (hB : B ≤ W.heap.size) : Calls Try.prog 10 #[.agg #[.int .i64 y.d.table, y.v, .int .i64 y.d.prio, .int .i64 y.d.action, y.u], .agg #[.int .i64 z.d.table, z.v, .int .i64 z.d.prio, .int .i64 z.d.action, z.u]] W (RetX (.int .i64 (entI y.d z.d)) W) := by
  obtain ⟨d, v, u⟩ := y
  obtain ⟨d2, v2, u2⟩ := z
  obtain ⟨h1, k1⟩ := h.rows _ hy
  obtain ⟨h2, k2⟩ := h.rows _ hz
  obtain ⟨A1, n1, c1, rfl, _⟩ := h1.parts
  obtain ⟨A2, n2, c2, rfl, _⟩ := k1.parts
  obtain ⟨A3, n3, c3, rfl, _⟩ := h2.parts
  obtain ⟨A4, n4, c4, rfl, _⟩ := k2.parts
  exact p_Compare d d2 h1 h2 k1 k2 hB
theorem LiE.elem {es : List EntX} {B g : Nat} {W : World} (h : LiE es B g W) (k : Nat) (hk : k < es.length) : ∃ (d : EntryD) (A : Option Addr) (n c : Nat) (U : Option Addr) (m k' : Nat), es[k]? = some ⟨d, .slice A n c, .slice U m k'⟩ := by
  have hx : es[k]? = some (es[k]'hk) := List.getElem?_eq_getElem hk
  obtain ⟨h1, h2⟩ := h.rows _ (List.getElem_mem hk)
  obtain ⟨A, n, c, e1, _⟩ := h1.parts
  obtain ⟨U, m, k', e2, _⟩ := h2.parts
  exact ⟨(es[k]'hk).d, A, n, c, U, m, k', by rw [hx, ← e1, ← e2]⟩
theorem LiE.ref {es : List EntX} {B g : Nat} {W : World} (h : LiE es B g W) {y z : EntX} (hy : y ∈ es) (hz : z ∈ es) (hB : B ≤ W.heap.size) : Calls Try.prog 11 #[.agg #[.int .i64 y.d.table, y.v, .int .i64 y.d.prio, .int .i64 y.d.action, y.u], .agg #[.int .i64 z.d.table, z.v, .int .i64 z.d.prio, .int .i64 z.d.action, z.u]] W (RetX (.int .i64 (entI y.d z.d)) W) := by
  obtain ⟨d, v, u⟩ := y
  obtain ⟨d2, v2, u2⟩ := z
  obtain ⟨h1, k1⟩ := h.rows _ hy
  obtain ⟨h2, k2⟩ := h.rows _ hz
  obtain ⟨A1, n1, c1, rfl, _⟩ := h1.parts
  obtain ⟨A2, n2, c2, rfl, _⟩ := k1.parts
  obtain ⟨A3, n3, c3, rfl, _⟩ := h2.parts
  obtain ⟨A4, n4, c4, rfl, _⟩ := k2.parts
  exact r_Compare d d2 h1 h2 k1 k2 hB
theorem LiE.same {es : List EntX} {B g : Nat} {W : World} (h : LiE es B g W) {y z : EntX} (hy : y ∈ es) (hz : z ∈ es) (hB : B ≤ W.heap.size) : Calls Try.prog 12 #[.agg #[.int .i64 y.d.table, y.v, .int .i64 y.d.prio, .int .i64 y.d.action, y.u], .agg #[.int .i64 z.d.table, z.v, .int .i64 z.d.prio, .int .i64 z.d.action, z.u]] W (SaysP (sameE y.d z.d) W) := by
  obtain ⟨d, v, u⟩ := y
  obtain ⟨d2, v2, u2⟩ := z
  obtain ⟨h1, k1⟩ := h.rows _ hy
  obtain ⟨h2, k2⟩ := h.rows _ hz
  obtain ⟨A1, n1, c1, rfl, _⟩ := h1.parts
  obtain ⟨A2, n2, c2, rfl, _⟩ := k1.parts
  obtain ⟨A3, n3, c3, rfl, _⟩ := h2.parts
  obtain ⟨A4, n4, c4, rfl, _⟩ := k2.parts
  exact g_Same d d2 h1 h2 k1 k2 hB
theorem LiE.key {es : List EntX} {B g : Nat} {W : World} (h : LiE es B g W) {y z : EntX} (hy : y ∈ es) (hz : z ∈ es) (hB : B ≤ W.heap.size) : Calls Try.prog 13 #[.agg #[.int .i64 y.d.table, y.v, .int .i64 y.d.prio, .int .i64 y.d.action, y.u], .agg #[.int .i64 z.d.table, z.v, .int .i64 z.d.prio, .int .i64 z.d.action, z.u]] W (SaysP (y.d.table = z.d.table ∧ y.d.prio = z.d.prio ∧ y.d.ms = z.d.ms) W) := by
  obtain ⟨d, v, u⟩ := y
  obtain ⟨d2, v2, u2⟩ := z
  obtain ⟨h1, k1⟩ := h.rows _ hy
  obtain ⟨h2, k2⟩ := h.rows _ hz
  obtain ⟨A1, n1, c1, rfl, _⟩ := h1.parts
  obtain ⟨A2, n2, c2, rfl, _⟩ := k1.parts
  obtain ⟨A3, n3, c3, rfl, _⟩ := h2.parts
  obtain ⟨A4, n4, c4, rfl, _⟩ := k2.parts
  exact g_SameKey d d2 h1 h2 hB
theorem LiE.rkey {es : List EntX} {B g : Nat} {W : World} (h : LiE es B g W) {y z : EntX} (hy : y ∈ es) (hz : z ∈ es) (hB : B ≤ W.heap.size) : Calls Try.prog 14 #[.agg #[.int .i64 y.d.table, y.v, .int .i64 y.d.prio, .int .i64 y.d.action, y.u], .agg #[.int .i64 z.d.table, z.v, .int .i64 z.d.prio, .int .i64 z.d.action, z.u]] W (SaysP (y.d.table = z.d.table ∧ y.d.prio = z.d.prio ∧ y.d.ms = z.d.ms) W) := by
  obtain ⟨d, v, u⟩ := y
  obtain ⟨d2, v2, u2⟩ := z
  obtain ⟨h1, k1⟩ := h.rows _ hy
  obtain ⟨h2, k2⟩ := h.rows _ hz
  obtain ⟨A1, n1, c1, rfl, _⟩ := h1.parts
  obtain ⟨A2, n2, c2, rfl, _⟩ := k1.parts
  obtain ⟨A3, n3, c3, rfl, _⟩ := h2.parts
  obtain ⟨A4, n4, c4, rfl, _⟩ := k2.parts
  exact r_SameKey d d2 h1 h2 hB
end Go.Proofs.Ythldelnibgdnaaa
