/- What comes in: elements that are written or read. -/
import Derived.Test.YthfimcbjbkbcjaaWStr
import Derived.Test.YthfimcbjbkbcjaaOpenRow
import Derived.Deep.Slices
namespace Go.Proofs.Ythfimcbjbkbcjaa
open Go.ChangeShapes Go.WideShapes Go.ChangeAt Go.RowKit Go.Joins Go.Deep

/-- An element: its kind, its numbers, its value, and its bytes with the slice that holds them. -/
structure OpR where
  kind : Int
  nn : Int
  most : Int
  val : Nat
  sA : Option Addr
  sn : Nat
  sc : Nat
  sD : Nat
  xs : List Nat
/-- The element x lies in block b from cell o on. -/
structure OpAt (w : World) (b o : Nat) (x : OpR) : Prop where
  c0 : w.cell? ⟨b, o, none⟩ = some (.int .i64 x.kind)
  c1 : w.cell? ⟨b, o + 1, none⟩ = some (.int .i64 x.nn)
  c2 : w.cell? ⟨b, o + 2, none⟩ = some (.int .i64 x.most)
  c3 : w.cell? ⟨b, o + 3, none⟩ = some (.int .u64 (hi x.val))
  c4 : w.cell? ⟨b, o + 4, none⟩ = some (.int .u64 (lo x.val))
  c5 : w.cell? ⟨b, o + 5, none⟩ = some (.slice x.sA x.sn x.sc)
  k1 : -9223372036854775808 ≤ x.kind ∧ x.kind ≤ 9223372036854775807
  n1 : -9223372036854775808 ≤ x.nn ∧ x.nn ≤ 9223372036854775807
  m1 : -9223372036854775808 ≤ x.most ∧ x.most ≤ 9223372036854775807
  v1 : x.val < 2 ^ 128
  le : x.sn ≤ x.sc
  max : x.sc ≤ maxLen
  len : x.xs.length = x.sn
  small : Small x.xs
  reads : ReadsL w x.sD x.sA x.xs
  lt : b < w.heap.size
  dlt : x.xs ≠ [] → x.sD < w.heap.size
/-- A slice of n elements. -/
def OpsAt (w : World) (A : Option Addr) (n : Nat) (f : Nat → OpR) : Prop := n = 0 ∨ ∃ b o, A = some ⟨b, o, none⟩ ∧ ∀ i, i < n → OpAt w b (o + i * 6) (f i)

/-- A row of bytes as a list. -/
theorem list_of_reads {w : World} {A : Option Addr} {n : Nat} {g : Nat → Nat} (h : ReadsB w A n g) : ∃ (D : Nat) (l : List Nat), l.length = n ∧ Small l ∧ ReadsL w D A l ∧ (l ≠ [] → D < w.heap.size) := by
  rcases h with rfl | ⟨b, o, rfl, hb, hc, hg⟩
  · exact ⟨0, [], rfl, Small.nil, .inl rfl, fun h => absurd rfl h⟩
  · have hl : ((List.range n).map g).length = n := by simp
    refine ⟨b, (List.range n).map g, hl, fun x hx => ?_, .inr ⟨o, rfl, hb, fun i hi => ?_⟩, fun _ => hb⟩
    · obtain ⟨i, hi, rfl⟩ := List.mem_map.1 hx
      exact hg i (List.mem_range.1 hi)
    · rw [hl] at hi
      rw [hc i hi, List.getD_eq_getElem?_getD, List.getElem?_map, List.getElem?_range hi]
      rfl
theorem cells_op : Try.prog.cellsOf 28 = 6 := by kernel_rfl
section
variable {H : Type} {enc : TypeId × Value → H} {w : World} {d : DataW H} {p : List MemPlace}
theorem cells_int : Try.prog.cellsOf 3 = 1 := by kernel_rfl
theorem cells_v : Try.prog.cellsOf 26 = 2 := by kernel_rfl
theorem cells_u : Try.prog.cellsOf 24 = 1 := by kernel_rfl
theorem cells_s : Try.prog.cellsOf 23 = 1 := by kernel_rfl
theorem open_op {fuel : Nat} {b o : Nat} {cs : List Value} {x : DataW H × List MemPlace} (hb : b < w.heap.size) (hc : ∀ i, i < 6 → w.cell? ⟨b, o + i, none⟩ = cs[i]?) (hl : cs.length = 6)
    (h : DataW.trod enc Try.prog w 0 (fun _ => true) true fuel 28 cs = some x) : ∃ y : OpR, OpAt w b o y := by
  obtain ⟨xs, n, _, _, _, hxl, hf⟩ := DataW.trod_struct Try.underlying28 h
  match cs, hl with
  | [c0, c1, c2, c3, c4, c5], _ =>
    match xs, hxl with
    | [y0, y1, y2, y3, y4], _ =>
      have h0 : DataW.trod enc Try.prog w 0 (fun _ => true) true n 3 (List.take (Try.prog.cellsOf 3) (List.drop 0 [c0, c1, c2, c3, c4, c5])) = some y0 := hf 0 _ rfl
      have h1 : DataW.trod enc Try.prog w 0 (fun _ => true) true n 3 (List.take (Try.prog.cellsOf 3) (List.drop 1 [c0, c1, c2, c3, c4, c5])) = some y1 := hf 1 _ rfl
      have h2 : DataW.trod enc Try.prog w 0 (fun _ => true) true n 3 (List.take (Try.prog.cellsOf 3) (List.drop 2 [c0, c1, c2, c3, c4, c5])) = some y2 := hf 2 _ rfl
      have h3 : DataW.trod enc Try.prog w 0 (fun _ => true) true n 26 (List.take (Try.prog.cellsOf 26) (List.drop 3 [c0, c1, c2, c3, c4, c5])) = some y3 := hf 3 _ rfl
      have h4 : DataW.trod enc Try.prog w 0 (fun _ => true) true n 23 (List.take (Try.prog.cellsOf 23) (List.drop 5 [c0, c1, c2, c3, c4, c5])) = some y4 := hf 4 _ rfl
      rw [cells_int] at h0 h1 h2
      rw [cells_v] at h3
      rw [cells_s] at h4
      obtain ⟨kind, e0, _, w0⟩ := DataW.trod_int Try.underlying3 h0
      obtain ⟨nn, e1, _, w1⟩ := DataW.trod_int Try.underlying3 h1
      obtain ⟨most, e2, _, w2⟩ := DataW.trod_int Try.underlying3 h2
      obtain ⟨zs, m, _, _, _, hzl, hg⟩ := DataW.trod_struct Try.underlying26 h3
      simp only [List.drop_zero, List.drop_succ_cons, List.take_succ_cons, List.take_zero, List.cons.injEq, and_true] at e0 e1 e2 h4
      subst e0 e1 e2
      match zs, hzl with
      | [z0, z1], _ =>
        have g0 : DataW.trod enc Try.prog w 0 (fun _ => true) true m 24 (List.take (Try.prog.cellsOf 24) (List.drop 0 [c3, c4])) = some z0 := hg 0 _ rfl
        have g1 : DataW.trod enc Try.prog w 0 (fun _ => true) true m 24 (List.take (Try.prog.cellsOf 24) (List.drop 1 [c3, c4])) = some z1 := hg 1 _ rfl
        rw [cells_u] at g0 g1
        obtain ⟨vh, e3, _, w3⟩ := DataW.trod_int Try.underlying24 g0
        obtain ⟨vl, e4, _, w4⟩ := DataW.trod_int Try.underlying24 g1
        simp only [List.drop_zero, List.drop_succ_cons, List.take_succ_cons, List.take_zero, List.cons.injEq, and_true] at e3 e4
        subst e3 e4
        obtain ⟨q1, q2, q3⟩ := hi_of vh vl (u64_of_wf w3) (u64_of_wf w4)
        have hsl : ∃ A len cap, c5 = .slice A len cap := by
          rcases open_ints Try.underlying23 Try.underlying5 (by kernel_rfl) h4 with ⟨hcs, _⟩ | ⟨a, len, cap, zs, hcs, _⟩
          · simp only [List.cons.injEq, and_true] at hcs
            exact ⟨_, _, _, hcs⟩
          · simp only [List.cons.injEq, and_true] at hcs
            exact ⟨_, _, _, hcs⟩
        obtain ⟨sA, sn, sc, rfl⟩ := hsl
        have ht : DataW.Trod enc Try.prog w 0 (fun _ => true) true 23 (.slice sA sn sc) y4.1 y4.2 := ⟨n, h4⟩
        obtain ⟨g, le1, mx, hrd⟩ := open_row ht
        obtain ⟨D, l, hl1, hl2, hl3, hl4⟩ := list_of_reads hrd
        refine ⟨⟨kind, nn, most, vh.toNat * 18446744073709551616 + vl.toNat, sA, sn, sc, D, l⟩, ?_⟩
        exact {
          c0 := hc 0 (by omega)
          c1 := hc 1 (by omega)
          c2 := hc 2 (by omega)
          c3 := by rw [q1]; exact hc 3 (by omega)
          c4 := by rw [q2]; exact hc 4 (by omega)
          c5 := hc 5 (by omega)
          k1 := i64_of_wf w0
          n1 := i64_of_wf w1
          m1 := i64_of_wf w2
          v1 := q3
          le := le1
          max := mx
          len := hl1
          small := hl2
          reads := hl3
          lt := hb
          dlt := hl4 }
theorem open_ops {A : Option Addr} {len cap : Nat} (h : DataW.Trod enc Try.prog w 0 (fun _ => true) true 22 (.slice A len cap) d p) : ∃ f : Nat → OpR, len ≤ cap ∧ cap ≤ maxLen ∧ OpsAt w A len f := by
  obtain ⟨fuel, hf⟩ := h
  rcases open_slice Try.underlying22 hf with ⟨hcs, _⟩ | ⟨a, l, c, m, n, D, Pl, hcs, _, hl, hm, hmm, _, hi⟩
  · simp [Value.cells] at hcs
    obtain ⟨rfl, rfl, rfl⟩ := hcs
    exact ⟨fun _ => ⟨0, 0, 0, 0, none, 0, 0, 0, []⟩, Nat.le_refl _, Nat.zero_le _, .inl rfl⟩
  · simp [Value.cells] at hcs
    obtain ⟨rfl, rfl, rfl⟩ := hcs
    have hmc : m = cap := by simpa using hmm
    subst hmc
    rcases Nat.eq_zero_or_pos len with h0 | h0
    · exact ⟨fun _ => ⟨0, 0, 0, 0, none, 0, 0, 0, []⟩, hl, hm, .inl h0⟩
    · have hsp : a.spot = none := by
        obtain ⟨cs', hc, _⟩ := hi 0 (by omega)
        rw [cells_op] at hc
        obtain ⟨_, hcl, hat⟩ := World.cells?_some hc
        have h1 := hat 0 (by omega)
        have h2 : w.cell? (a.add (0 * 6)) = some (cs'[0]'(by omega)) := by
          have := h1
          rw [List.getElem?_eq_getElem (by omega)] at this
          have e : (a.add (0 * 6)).add 0 = a.add (0 * 6) := by simp [Addr.add]
          rwa [e] at this
        have e : a.add (0 * 6) = a := by simp [Addr.add]
        rw [e] at h2
        exact World.cell?_spot h2
      obtain ⟨b, o, s⟩ := a
      simp only at hsp
      subst hsp
      have key : ∀ i, i < len → ∃ y, OpAt w b (o + i * 6) y := by
        intro i hilt
        obtain ⟨cs', hc, ht⟩ := hi i (by omega)
        rw [cells_op] at hc
        obtain ⟨_, hcl, hat⟩ := World.cells?_some hc
        have hcell : ∀ j, j < 6 → w.cell? ⟨b, o + i * 6 + j, none⟩ = cs'[j]? := fun j hj => by
          have := hat j hj
          rw [Addr.add_mid, Addr.add_mid] at this
          exact this
        refine open_op ?_ hcell hcl ht
        have h2 := hcell 0 (by omega)
        rw [List.getElem?_eq_getElem (by omega)] at h2
        exact World.block_lt_of_cell? _ _ h2
      refine ⟨fun i => if hlt : i < len then (key i hlt).choose else ⟨0, 0, 0, 0, none, 0, 0, 0, []⟩, hl, hm, .inr ⟨b, o, rfl, fun i hilt => ?_⟩⟩
      simp only [hilt, dif_pos]
      exact (key i hilt).choose_spec
end
end Go.Proofs.Ythfimcbjbkbcjaa
