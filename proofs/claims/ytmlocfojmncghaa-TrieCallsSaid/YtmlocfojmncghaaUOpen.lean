/- Contracts, joined: OpenB, UOpen. -/
import Derived.Test.YtmlocfojmncghaaPure
import Derived.ProofKit
import Derived.Lib.SmallJoins
import Derived.Below
import Derived.ChangeOld
import Derived.Test.YtmlocfojmncghaaJParse
import Derived.Test.YtmlocfojmncghaaJRead
import Derived.Deep.Slices
import Derived.OpenShut
namespace Go.Proofs.Ytmlocfojmncghaa
section
/- What comes in: values opened as numbers. -/
section
open Go.ChangeShapes Go.WideShapes Go.ChangeAt Go.RowKit Go.Joins

set_option maxRecDepth 100000 in
theorem own : ownKnob Try.prog.godebug = none := by kernel_rfl
set_option maxRecDepth 100000 in
theorem laidOut : laidOutB Try.prog = true := by kernel_rfl
set_option maxRecDepth 100000 in
theorem cells_val : Try.prog.cellsOf 29 = 2 := by kernel_rfl
set_option maxRecDepth 100000 in
theorem u64_of_wf {x : Int} (h : (Lit.int .u64 x).wf = true) : 0 ≤ x ∧ x < 18446744073709551616 := by
  simp [Lit.wf, IntKind.min, IntKind.max, IntKind.signed, IntKind.bits] at h
  omega
set_option maxRecDepth 100000 in
theorem i64_of_wf {x : Int} (h : (Lit.int .i64 x).wf = true) : -9223372036854775808 ≤ x ∧ x ≤ 9223372036854775807 := by
  simp [Lit.wf, IntKind.min, IntKind.max, IntKind.signed, IntKind.bits] at h
  omega
set_option maxRecDepth 100000 in
theorem hi_of (x y : Int) (hx : 0 ≤ x ∧ x < 18446744073709551616) (hy : 0 ≤ y ∧ y < 18446744073709551616) : hi (x.toNat * 18446744073709551616 + y.toNat) = x ∧ lo (x.toNat * 18446744073709551616 + y.toNat) = y ∧ x.toNat * 18446744073709551616 + y.toNat < 2 ^ 128 := by
  unfold hi lo
  omega
section
variable {H : Type} {enc : TypeId × Value → H} {w : World} {base b0 : Nat} {spare : Nat → Bool} {held : Bool} {v : Value} {d : DataW H} {p : List MemPlace}
set_option maxRecDepth 100000 in
theorem open_val (hv : Value.okWide Try.prog w .any b0 29 v) (h : DataW.Trod enc Try.prog w base spare held 29 v d p) : ∃ n : Nat, n < 2 ^ 128 ∧ v = .agg #[.int .u64 (hi n), .int .u64 (lo n)] := by
  obtain ⟨c0, c1, y0, y1, m, rfl, rfl, rfl, hy0, hy1⟩ := open_agg2 Try.underlying29 (by kernel_rfl) cells_val hv h
  obtain ⟨x, e0, rfl, wx⟩ := DataW.trod_int Try.underlying27 hy0
  obtain ⟨y, e1, rfl, wy⟩ := DataW.trod_int Try.underlying27 hy1
  simp at e0 e1
  subst e0 e1
  obtain ⟨h1, h2, h3⟩ := hi_of x y (u64_of_wf wx) (u64_of_wf wy)
  exact ⟨_, h3, by rw [h1, h2]⟩
end
end
/- What comes in: a slice of bytes, opened as a row that can be read. -/
section
open Go.ChangeShapes Go.WideShapes Go.ChangeAt Go.RowKit Go.Joins

set_option maxRecDepth 100000 in
theorem u8_of_wf {x : Int} (h : (Lit.int .u8 x).wf = true) : 0 ≤ x ∧ x < 256 := by
  simp [Lit.wf, IntKind.min, IntKind.max, IntKind.signed, IntKind.bits] at h
  omega
set_option maxRecDepth 100000 in
theorem open_row {H : Type} {enc : TypeId × Value → H} {w : World} {A : Option Addr} {len cap : Nat} {d : DataW H} {p : List MemPlace}
    (h : DataW.Trod enc Try.prog w 0 (fun _ => true) true 22 (.slice A len cap) d p) : ∃ g : Nat → Nat, len ≤ cap ∧ cap ≤ maxLen ∧ ReadsB w A len g := by
  obtain ⟨fuel, hf⟩ := h
  rcases open_ints Try.underlying22 Try.underlying5 (by kernel_rfl) hf with ⟨hcs, _⟩ | ⟨x, l, c, zs, hcs, _, hl, hm, hz, _, hcell, hwz⟩
  · simp [Value.cells] at hcs
    obtain ⟨rfl, rfl, rfl⟩ := hcs
    exact ⟨fun _ => 0, Nat.le_refl _, Nat.zero_le _, .inl rfl⟩
  · simp [Value.cells] at hcs
    obtain ⟨rfl, rfl, rfl⟩ := hcs
    have hz2 : zs.length = cap := by simpa using hz
    refine ⟨fun i => (zs.getD i 0).toNat, hl, hm, ?_⟩
    rcases Nat.eq_zero_or_pos len with h0 | h0
    · exact .inl h0
    · have hin : ∀ i, i < len → 0 ≤ zs.getD i 0 ∧ zs.getD i 0 < 256 := by
        intro i hi
        have hi2 : i < zs.length := by omega
        refine u8_of_wf (hwz _ ?_)
        rw [List.getD_eq_getElem?_getD, List.getElem?_eq_getElem hi2]
        exact List.getElem_mem hi2
      have h00 := hcell 0 (by omega)
      have hx0 : x.add 0 = x := by simp [Addr.add]
      rw [hx0] at h00
      obtain ⟨b, o, s⟩ := x
      have hs : s = none := World.cell?_spot h00
      subst hs
      refine .inr ⟨b, o, rfl, World.block_lt_of_cell? _ _ h00, fun i hi => ?_, fun i hi => ?_⟩
      · have hc := hcell i (by omega)
        rw [Addr.add_mid] at hc
        rw [hc, Int.toNat_of_nonneg (hin i hi).1]
      · have := hin i hi
        dsimp only
        omega
end
section
open Go.RowKit
theorem rd_list {w : World} {A : Option Addr} {n : Nat} {g : Nat → Nat} (h : ReadsB w A n g) : ∃ (D : Nat) (l : List Nat), l.length = n ∧ Small l ∧ ReadsL w D A l ∧ (l ≠ [] → D < w.heap.size) := by
  rcases h with rfl | ⟨b, o, rfl, hb, hc, hg⟩
  · exact ⟨0, [], rfl, Small.nil, .inl rfl, fun h => absurd rfl h⟩
  · have hl : ((List.range n).map g).length = n := by simp
    refine ⟨b, (List.range n).map g, hl, fun x hx => ?_, .inr ⟨o, rfl, hb, fun i hi => ?_⟩, fun _ => hb⟩
    · obtain ⟨i, hi, rfl⟩ := List.mem_map.1 hx
      exact hg i (List.mem_range.1 hi)
    · rw [hl] at hi
      rw [hc i hi, List.getD_eq_getElem?_getD, List.getElem?_map, List.getElem?_range hi]
      rfl
end
end
section
open Go.ChangeShapes Go.WideShapes Go.ChangeAt Go.RowKit Go.Joins Go.Deep
/-- a call -/
structure UOp where
  kind : Int
  raw : Nat
  v : Nat
  n : Int
  id : Int
instance : Inhabited UOp := ⟨⟨0, 0, 0, 0, 0⟩⟩
def UOp.cells (q : UOp) : List Value := [.int .i64 q.kind, .int .u8 q.raw, .int .u64 (hi q.v), .int .u64 (lo q.v), .int .i64 q.n, .int .i64 q.id]
def UOp.ok (q : UOp) : Prop := (Lit.int .i64 q.kind).wf = true ∧ q.raw < 256 ∧ q.v < 2 ^ 128 ∧ (Lit.int .i64 q.n).wf = true ∧ (Lit.int .i64 q.id).wf = true
/-- a row of calls -/
def OpsU (w : World) (A : Option Addr) (qs : List UOp) : Prop := qs = [] ∨ ∃ g o, A = some ⟨g, o, none⟩ ∧ g < w.heap.size ∧ ∀ i q, qs[i]? = some q → ∀ j, j < 6 → w.cell? ⟨g, o + i * 6 + j, none⟩ = q.cells[j]?
theorem OpsU.below {w w' : World} {A : Option Addr} {qs : List UOp} (h : OpsU w A qs) (hb : Below w.heap.size w w') : OpsU w' A qs := by
  rcases h with h | ⟨g, o, h1, h2, h3⟩
  · exact .inl h
  · exact .inr ⟨g, o, h1, Nat.lt_of_lt_of_le h2 hb.size, fun i q hq j hj => by rw [hb.cell (p := ⟨g, _, none⟩) h2]; exact h3 i q hq j hj⟩
section
variable {H : Type} {enc : TypeId × Value → H} {w : World} {b0 : Nat} {v : Value} {d : DataW H} {p : List MemPlace}
set_option maxRecDepth 100000 in
theorem cellsU_int : Try.prog.cellsOf 3 = 1 := by kernel_rfl
set_option maxRecDepth 100000 in
theorem cellsU_u8 : Try.prog.cellsOf 5 = 1 := by kernel_rfl
set_option maxRecDepth 100000 in
theorem cellsU_u64 : Try.prog.cellsOf 27 = 1 := by kernel_rfl
set_option maxRecDepth 100000 in
theorem cellsU_val : Try.prog.cellsOf 29 = 2 := by kernel_rfl
set_option maxRecDepth 100000 in
theorem cellsU_op : Try.prog.cellsOf 59 = 6 := by kernel_rfl
set_option maxRecDepth 100000 in
theorem openU_val {fuel : Nat} {c0 c1 : Value} {x : DataW H × List MemPlace} (h : DataW.trod enc Try.prog w 0 (fun _ => true) true fuel 29 [c0, c1] = some x) : ∃ n : Nat, n < 2 ^ 128 ∧ c0 = .int .u64 (hi n) ∧ c1 = .int .u64 (lo n) := by
  obtain ⟨zs, m, _, _, _, hzl, hg⟩ := DataW.trod_struct Try.underlying29 h
  match zs, hzl with
  | [z0, z1], _ =>
    have g0 : DataW.trod enc Try.prog w 0 (fun _ => true) true m 27 (List.take (Try.prog.cellsOf 27) (List.drop 0 [c0, c1])) = some z0 := hg 0 _ rfl
    have g1 : DataW.trod enc Try.prog w 0 (fun _ => true) true m 27 (List.take (Try.prog.cellsOf 27) (List.drop 1 [c0, c1])) = some z1 := hg 1 _ rfl
    rw [cellsU_u64] at g0 g1
    obtain ⟨vh, e3, _, w3⟩ := DataW.trod_int Try.underlying27 g0
    obtain ⟨vl, e4, _, w4⟩ := DataW.trod_int Try.underlying27 g1
    simp only [List.drop_zero, List.drop_succ_cons, List.take_succ_cons, List.take_zero, List.cons.injEq, and_true] at e3 e4
    subst e3 e4
    obtain ⟨q1, q2, q3⟩ := hi_of vh vl (u64_of_wf w3) (u64_of_wf w4)
    exact ⟨_, q3, by rw [q1], by rw [q2]⟩
set_option maxRecDepth 100000 in
theorem openU_op {fuel : Nat} {cs : List Value} {x : DataW H × List MemPlace} (hl : cs.length = 6) (h : DataW.trod enc Try.prog w 0 (fun _ => true) true fuel 59 cs = some x) : ∃ q : UOp, q.ok ∧ cs = q.cells := by
  obtain ⟨xs, n, _, _, _, hxl, hf⟩ := DataW.trod_struct Try.underlying59 h
  match cs, hl with
  | [c0, c1, c2, c3, c4, c5], _ =>
    match xs, hxl with
    | [y0, y1, y2, y3, y4], _ =>
      have h0 : DataW.trod enc Try.prog w 0 (fun _ => true) true n 3 (List.take (Try.prog.cellsOf 3) (List.drop 0 [c0, c1, c2, c3, c4, c5])) = some y0 := hf 0 _ rfl
      have h1 : DataW.trod enc Try.prog w 0 (fun _ => true) true n 5 (List.take (Try.prog.cellsOf 5) (List.drop 1 [c0, c1, c2, c3, c4, c5])) = some y1 := hf 1 _ rfl
      have h2 : DataW.trod enc Try.prog w 0 (fun _ => true) true n 29 (List.take (Try.prog.cellsOf 29) (List.drop 2 [c0, c1, c2, c3, c4, c5])) = some y2 := hf 2 _ rfl
      have h3 : DataW.trod enc Try.prog w 0 (fun _ => true) true n 3 (List.take (Try.prog.cellsOf 3) (List.drop 4 [c0, c1, c2, c3, c4, c5])) = some y3 := hf 3 _ rfl
      have h4 : DataW.trod enc Try.prog w 0 (fun _ => true) true n 3 (List.take (Try.prog.cellsOf 3) (List.drop 5 [c0, c1, c2, c3, c4, c5])) = some y4 := hf 4 _ rfl
      rw [cellsU_int] at h0 h3 h4
      rw [cellsU_u8] at h1
      rw [cellsU_val] at h2
      obtain ⟨kind, e0, _, w0⟩ := DataW.trod_int Try.underlying3 h0
      obtain ⟨raw, e1, _, w1⟩ := DataW.trod_int Try.underlying5 h1
      obtain ⟨n, e3, _, w3⟩ := DataW.trod_int Try.underlying3 h3
      obtain ⟨id, e4, _, w4⟩ := DataW.trod_int Try.underlying3 h4
      obtain ⟨v, hv, e2a, e2b⟩ := openU_val (c0 := c2) (c1 := c3) h2
      simp only [List.drop_zero, List.drop_succ_cons, List.take_succ_cons, List.take_zero, List.cons.injEq, and_true] at e0 e1 e3 e4
      obtain ⟨k, rfl⟩ := Int.eq_ofNat_of_zero_le (u8_of_wf w1).1
      have hk := (u8_of_wf w1).2
      refine ⟨⟨kind, k, v, n, id⟩, ⟨w0, by show k < 256; omega, hv, w3, w4⟩, ?_⟩
      rw [e0, e1, e2a, e2b, e3, e4]
      rfl
set_option maxRecDepth 100000 in
theorem open_uop (hv : Value.okWide Try.prog w .any b0 59 v) (h : DataW.Trod enc Try.prog w 0 (fun _ => true) true 59 v d p) : ∃ q : UOp, q.ok ∧ v = .agg q.cells.toArray := by
  obtain ⟨cs, rfl, hsz⟩ := okWide_struct Try.underlying59 hv
  obtain ⟨fuel, hf⟩ := h
  have hf2 : DataW.trod enc Try.prog w 0 (fun _ => true) true fuel 59 cs.toList = some (d, p) := by simpa [Value.cells] using hf
  obtain ⟨q, hq, e⟩ := openU_op (by rw [Array.length_toList, hsz, cellsU_op]) hf2
  exact ⟨q, hq, by rw [← e, Array.toArray_toList]⟩
set_option maxRecDepth 100000 in
theorem open_uops {A : Option Addr} {len cap : Nat} (h : DataW.Trod enc Try.prog w 0 (fun _ => true) true 52 (.slice A len cap) d p) : ∃ qs : List UOp, qs.length = len ∧ len ≤ cap ∧ cap ≤ maxLen ∧ (∀ q ∈ qs, q.ok) ∧ OpsU w A qs := by
  obtain ⟨fuel, hf⟩ := h
  rcases open_slice Try.underlying52 hf with ⟨hcs, _⟩ | ⟨a, l, c, m, n, D, Pl, hcs, _, hl, hm, hmm, _, hi⟩
  · simp [Value.cells] at hcs
    obtain ⟨rfl, rfl, rfl⟩ := hcs
    exact ⟨[], rfl, Nat.le_refl _, Nat.zero_le _, fun q hq => (by cases hq), .inl rfl⟩
  · simp [Value.cells] at hcs
    obtain ⟨rfl, rfl, rfl⟩ := hcs
    have hmc : m = cap := by simpa using hmm
    subst hmc
    rcases Nat.eq_zero_or_pos len with h0 | h0
    · exact ⟨[], h0.symm, hl, hm, fun q hq => (by cases hq), .inl rfl⟩
    · have hsp : a.spot = none := by
        obtain ⟨cs', hc, _⟩ := hi 0 (by omega)
        rw [cellsU_op] at hc
        obtain ⟨_, hcl, hat⟩ := World.cells?_some hc
        have h1 := hat 0 (by omega)
        have h2 : w.cell? (a.add (0 * 6)) = some (cs'[0]'(by omega)) := by
          have := h1
          rw [List.getElem?_eq_getElem (by omega)] at this
          have e : (a.add (0 * 6)).add 0 = a.add (0 * 6) := by simp [Addr.add]
          rwa [e] at this
        have e : a.add (0 * 6) = a := by simp [Addr.add]
        rw [e] at h2
        exact World.cell?_spot h2
      obtain ⟨b, o, s⟩ := a
      simp only at hsp
      subst hsp
      have key : ∀ i, i < len → ∃ q : UOp, q.ok ∧ b < w.heap.size ∧ ∀ j, j < 6 → w.cell? ⟨b, o + i * 6 + j, none⟩ = q.cells[j]? := by
        intro i hilt
        obtain ⟨cs', hc, ht⟩ := hi i (by omega)
        rw [cellsU_op] at hc
        obtain ⟨_, hcl, hat⟩ := World.cells?_some hc
        have hcell : ∀ j, j < 6 → w.cell? ⟨b, o + i * 6 + j, none⟩ = cs'[j]? := fun j hj => by
          have := hat j hj
          rw [Addr.add_mid, Addr.add_mid] at this
          exact this
        obtain ⟨q, hq, e⟩ := openU_op hcl ht
        subst e
        refine ⟨q, hq, ?_, hcell⟩
        have h2 := hcell 0 (by omega)
        exact World.block_lt_of_cell? _ _ h2
      let g : Nat → UOp := fun i => if h : i < len then (key i h).choose else default
      have hg : ∀ i, i < len → (g i).ok ∧ b < w.heap.size ∧ ∀ j, j < 6 → w.cell? ⟨b, o + i * 6 + j, none⟩ = (g i).cells[j]? := fun i h => by
        have := (key i h).choose_spec
        simp only [g, h, dif_pos]
        exact this
      refine ⟨(List.range len).map g, by simp, hl, hm, fun q hq => ?_, .inr ⟨b, o, rfl, (hg 0 h0).2.1, fun i q hq j hj => ?_⟩⟩
      · obtain ⟨i, hi, rfl⟩ := List.mem_map.1 hq
        exact (hg i (List.mem_range.1 hi)).1
      · rw [List.getElem?_map] at hq
        obtain ⟨i', hi', rfl⟩ := Option.map_eq_some_iff.1 hq
        have hlt : i < len := by
          have := (List.getElem?_eq_some_iff.1 hi').1
          simpa using this
        rw [List.getElem?_range hlt] at hi'
        obtain rfl := Option.some.inj hi'
        exact (hg i hlt).2.2 j hj
end
end
end Go.Proofs.Ytmlocfojmncghaa
