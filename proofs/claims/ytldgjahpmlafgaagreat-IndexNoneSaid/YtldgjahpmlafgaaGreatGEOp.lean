/- What comes in as a match, an entry, an installed entry. -/
import Derived.Test.YtldgjahpmlafgaaGreatSOpen
import Derived.Test.YtldgjahpmlafgaaGreatGEnt
namespace Go.Proofs.YtldgjahpmlafgaaGreat
open Go.ChangeShapes Go.WideShapes Go.ChangeAt Go.RowKit Go.Joins Go.Deep

/-- An installed entry's cells. -/
def InstV : CellP (EntryD × Int × Int) := fun B w cs x => ∃ v u, cs = [.int .i64 x.1.table, v, .int .i64 x.1.prio, .int .i64 x.1.action, u, .int .i64 x.2.1, .int .i64 x.2.2] ∧ I64 x.1.table ∧ RowV 8 MatchV B w v x.1.ms ∧ I64 x.1.prio ∧ I64 x.1.action ∧ RowV 2 ValV B w u x.1.args ∧ I64 x.2.1 ∧ I64 x.2.2
section
variable {H : Type} (enc : TypeId × Value → H) (w : World)
set_option maxRecDepth 100000 in
theorem op_match : Opens enc w 90 MatchV (fun _ => 0) := fun fuel cs x h => by
  obtain ⟨xs, m, _, rfl, hl, hxl, hg⟩ := DataW.trod_struct Tryz.underlying90 h
  have hl2 : cs.length = 8 := hl
  match cs, hl2, xs, hxl with
  | [c0, c1, c2, c3, c4, c5, c6, c7], _, [x0, x1, x2, x3, x4], _ =>
    have g0 : DataW.trod enc Tryz.prog w 0 (fun _ => true) true m 4 [c0] = some x0 := hg 0 _ rfl
    have g1 : DataW.trod enc Tryz.prog w 0 (fun _ => true) true m 49 [c1, c2] = some x1 := hg 1 _ rfl
    have g2 : DataW.trod enc Tryz.prog w 0 (fun _ => true) true m 49 [c3, c4] = some x2 := hg 2 _ rfl
    have g3 : DataW.trod enc Tryz.prog w 0 (fun _ => true) true m 3 [c5] = some x3 := hg 3 _ rfl
    have g4 : DataW.trod enc Tryz.prog w 0 (fun _ => true) true m 49 [c6, c7] = some x4 := hg 4 _ rfl
    obtain ⟨a0, e0, b0⟩ := op_bool enc w _ _ _ g0
    have e0 : [c0] = [Value.bool a0] := e0
    obtain ⟨a1, ⟨e1, r1⟩, b1⟩ := op_val enc w _ _ _ g1
    obtain ⟨a2, ⟨e2, r2⟩, b2⟩ := op_val enc w _ _ _ g2
    obtain ⟨a3, ⟨e3, r3⟩, b3⟩ := op_int enc w _ _ _ g3
    obtain ⟨a4, ⟨e4, r4⟩, b4⟩ := op_val enc w _ _ _ g4
    simp only [List.cons.injEq, and_true] at e0 e1 e2 e3 e4
    subst e0
    obtain ⟨rfl, rfl⟩ := e1
    obtain ⟨rfl, rfl⟩ := e2
    subst e3
    obtain ⟨rfl, rfl⟩ := e4
    exact ⟨⟨a0, a1, a2, a3, a4⟩, ⟨rfl, r1, r2, r4, r3⟩, Nat.zero_le _⟩
set_option maxRecDepth 100000 in
theorem op_entry : Opens enc w 26 EntryV (fun _ => 0) := fun fuel cs x h => by
  obtain ⟨xs, m, _, rfl, hl, hxl, hg⟩ := DataW.trod_struct Tryz.underlying26 h
  have hl2 : cs.length = 5 := hl
  match cs, hl2, xs, hxl with
  | [c0, c1, c2, c3, c4], _, [x0, x1, x2, x3, x4], _ =>
    have g0 : DataW.trod enc Tryz.prog w 0 (fun _ => true) true m 3 [c0] = some x0 := hg 0 _ rfl
    have g1 : DataW.trod enc Tryz.prog w 0 (fun _ => true) true m 23 [c1] = some x1 := hg 1 _ rfl
    have g2 : DataW.trod enc Tryz.prog w 0 (fun _ => true) true m 3 [c2] = some x2 := hg 2 _ rfl
    have g3 : DataW.trod enc Tryz.prog w 0 (fun _ => true) true m 3 [c3] = some x3 := hg 3 _ rfl
    have g4 : DataW.trod enc Tryz.prog w 0 (fun _ => true) true m 24 [c4] = some x4 := hg 4 _ rfl
    obtain ⟨a0, ⟨e0, r0⟩, b0⟩ := op_int enc w _ _ _ g0
    obtain ⟨a1, ⟨v1, e1, r1⟩, b1⟩ := (op_sl enc w (t := 23) (e := 90) (sz := 8) Tryz.underlying23 (by kernel_rfl) (by decide) (op_match enc w)) _ _ _ g1
    obtain ⟨a2, ⟨e2, r2⟩, b2⟩ := op_int enc w _ _ _ g2
    obtain ⟨a3, ⟨e3, r3⟩, b3⟩ := op_int enc w _ _ _ g3
    obtain ⟨a4, ⟨v4, e4, r4⟩, b4⟩ := (op_sl enc w (t := 24) (e := 49) (sz := 2) Tryz.underlying24 (by kernel_rfl) (by decide) (op_val enc w)) _ _ _ g4
    simp only [List.cons.injEq, and_true] at e0 e1 e2 e3 e4
    subst e0
    subst e1
    subst e2
    subst e3
    subst e4
    exact ⟨⟨a0, a1, a2, a3, a4⟩, ⟨_, _, rfl, r0, r1, r2, r3, r4⟩, Nat.zero_le _⟩
set_option maxRecDepth 100000 in
theorem op_inst : Opens enc w 43 InstV (fun _ => 0) := fun fuel cs x h => by
  obtain ⟨xs, m, _, rfl, hl, hxl, hg⟩ := DataW.trod_struct Tryz.underlying43 h
  have hl2 : cs.length = 7 := hl
  match cs, hl2, xs, hxl with
  | [c0, c1, c2, c3, c4, c5, c6], _, [x0, x1, x2], _ =>
    have g0 : DataW.trod enc Tryz.prog w 0 (fun _ => true) true m 26 [c0, c1, c2, c3, c4] = some x0 := hg 0 _ rfl
    have g1 : DataW.trod enc Tryz.prog w 0 (fun _ => true) true m 3 [c5] = some x1 := hg 1 _ rfl
    have g2 : DataW.trod enc Tryz.prog w 0 (fun _ => true) true m 3 [c6] = some x2 := hg 2 _ rfl
    obtain ⟨a0, ⟨v, u, e0, k1, k2, k3, k4, k5⟩, b0⟩ := op_entry enc w _ _ _ g0
    obtain ⟨a1, ⟨e1, r1⟩, b1⟩ := op_int enc w _ _ _ g1
    obtain ⟨a2, ⟨e2, r2⟩, b2⟩ := op_int enc w _ _ _ g2
    simp only [List.cons.injEq, and_true] at e0 e1 e2
    obtain ⟨rfl, rfl, rfl, rfl, rfl⟩ := e0
    subst e1
    subst e2
    exact ⟨⟨a0, a1, a2⟩, ⟨_, _, rfl, k1, k2, k3, k4, k5, r1, r2⟩, Nat.zero_le _⟩
end
section
variable {H : Type} {enc : TypeId × Value → H} {w : World} {b0 : Nat} {v : Value} {d : DataW H} {p : List MemPlace}
set_option maxRecDepth 100000 in
theorem open_inst (hv : Value.okWide Tryz.prog w .any b0 43 v) (h : DataW.Trod enc Tryz.prog w 0 (fun _ => true) true 43 v d p) : ∃ (e : EntryD) (A : Option Addr) (n c : Nat) (A2 : Option Addr) (n2 c2 : Nat) (rn ro : Int), v = .agg #[.int .i64 e.table, .slice A n c, .int .i64 e.prio, .int .i64 e.action, .slice A2 n2 c2, .int .i64 rn, .int .i64 ro] ∧ RowV 8 MatchV w.heap.size w (.slice A n c) e.ms ∧ RowV 2 ValV w.heap.size w (.slice A2 n2 c2) e.args := by
  obtain ⟨cs, rfl, hsz⟩ := okWide_struct Tryz.underlying43 hv
  have hC : Tryz.prog.cellsOf 43 = 7 := by kernel_rfl
  obtain ⟨fuel, hf⟩ := h
  have hf2 : DataW.trod enc Tryz.prog w 0 (fun _ => true) true fuel 43 cs.toList = some (d, p) := by simpa [Value.cells] using hf
  obtain ⟨⟨e, rn, ro⟩, ⟨v1, u1, e1, _, k2, _, _, k5, _, _⟩, _⟩ := op_inst enc w _ _ _ hf2
  obtain ⟨A, n, c, rfl, _⟩ := k2.parts
  obtain ⟨A2, n2, c2, rfl, _⟩ := k5.parts
  exact ⟨e, A, n, c, A2, n2, c2, rn, ro, by rw [← Array.toArray_toList (xs := cs), e1], k2, k5⟩
set_option maxRecDepth 100000 in
theorem open_entry (hv : Value.okWide Tryz.prog w .any b0 26 v) (h : DataW.Trod enc Tryz.prog w 0 (fun _ => true) true 26 v d p) : ∃ (e : EntryD) (A : Option Addr) (n c : Nat) (A2 : Option Addr) (n2 c2 : Nat), v = .agg #[.int .i64 e.table, .slice A n c, .int .i64 e.prio, .int .i64 e.action, .slice A2 n2 c2] ∧ RowV 8 MatchV w.heap.size w (.slice A n c) e.ms ∧ RowV 2 ValV w.heap.size w (.slice A2 n2 c2) e.args ∧ I64 e.table ∧ I64 e.prio ∧ I64 e.action := by
  obtain ⟨cs, rfl, hsz⟩ := okWide_struct Tryz.underlying26 hv
  obtain ⟨fuel, hf⟩ := h
  have hf2 : DataW.trod enc Tryz.prog w 0 (fun _ => true) true fuel 26 cs.toList = some (d, p) := by simpa [Value.cells] using hf
  obtain ⟨e, ⟨v1, u1, e1, k1, k2, k3, k4, k5⟩, _⟩ := op_entry enc w _ _ _ hf2
  obtain ⟨A, n, c, rfl, _⟩ := k2.parts
  obtain ⟨A2, n2, c2, rfl, _⟩ := k5.parts
  exact ⟨e, A, n, c, A2, n2, c2, by rw [← Array.toArray_toList (xs := cs), e1], k2, k5, k1, k3, k4⟩
end
end Go.Proofs.YtldgjahpmlafgaaGreat
