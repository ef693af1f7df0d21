/- The three tables, as the rows of layer 8 lay them. -/
import Derived.Test.YtodmkmoglchoeaaDoorYLaid
import Derived.Test.YtodmkmoglchoeaaDoorTProg
import Derived.Deep.Strs
namespace Go.Proofs.YtodmkmoglchoeaaDoor
open Go.ChangeShapes Go.WideShapes Go.ChangeAt Go.RowKit Go.Joins

theorem gTypT : Tryd.prog.globalNamed "matchguard/types.operators" = some 1 := by kernel_rfl
theorem tTypT : (Tryd.prog.globals[1]?).map (·.type) = some 202 := by kernel_rfl
abbrev laidT : List (String × DataW Unit) := [("matchguard/lexer.symbols", Rows.laid_matchguard_lexer_symbols), ("matchguard/syntax.symbols", Rows.laid_matchguard_syntax_symbols), ("matchguard/types.operators", Rows.laid_matchguard_types_operators)]
theorem door_metT (os : Os) (args : Array Value) : laidMetH Tryd.prog laidT ((World.doorLaid Tryd.prog 400 os).forCall (fun _ _ => 0) ⟨#[], args, []⟩).memory :=
  laidMetH_of_parts3 (fuel := 8) (laidMet_of_run' 8 (by kernel_rfl) (by kernel_rfl)) (by kernel_rfl) (by kernel_rfl)
theorem typTD : (Rows.laid_matchguard_types_operators : DataW Unit) = .agg (opTab.map fun t => .agg [.lit (.int .i64 (t.1 : Nat)), .lit (.int .i64 (t.2.1 : Nat)), .lit (.int .i64 (t.2.2 : Nat))]) := rfl
theorem part_at {α : Type} {L : List α} {a j : Nat} {v : α} (hj : j < 3) (h : (((L.drop a).take 3).drop j).take 1 = [v]) : L[a + j]? = some v := by
  have h1 : ((((L.drop a).take 3).drop j).take 1)[0]? = some v := by rw [h]; rfl
  simpa [List.getElem?_take, List.getElem?_drop, hj] using h1
set_option maxRecDepth 100000 in
theorem tabT {W : World} {cs0 : Array Value} {f0 : Nat} {p0 : List MemPlace} (hv0 : W.var? Tryd.prog "matchguard/types.operators" = some cs0) (hd0 : DataW.trod (fun _ => ()) Tryd.prog W 0 (fun _ => true) false f0 202 cs0.toList = some (Rows.laid_matchguard_types_operators, p0)) : ∀ i, i < 17 → W.cell? ⟨1, i * 3, none⟩ = some (.int .i64 (opN i : Nat)) ∧ W.cell? ⟨1, i * 3 + 1, none⟩ = some (.int .i64 (opK i : Nat)) ∧ W.cell? ⟨1, i * 3 + 2, none⟩ = some (.int .i64 (opM i : Nat)) := by
  have hcell := World.var?_cell gTypT hv0
  rw [typTD] at hd0
  obtain ⟨xs, m1, rfl, hx1, hlen, hn3, hel⟩ := DataW.trod_array Tryd.underlying202 hd0
  have c3 : Tryd.prog.cellsOf 189 = 3 := by kernel_rfl
  have ci : Tryd.prog.cellsOf 3 = 1 := by kernel_rfl
  have ck : Tryd.prog.cellsOf 165 = 1 := by kernel_rfl
  simp only [Prod.mk.injEq, DataW.agg.injEq] at hx1
  intro i hi
  have h1 := hel i hi
  rw [c3] at h1
  have hxi : i < xs.length := by rw [hn3]; exact hi
  rw [List.getElem?_eq_getElem hxi] at h1
  obtain ⟨y0, y1, y2, n, hx, hl, t0, t1, t2⟩ := Go.Deep.trod_struct3 Tryd.underlying189 h1
  simp only [ci, ck] at t0 t1 t2
  obtain ⟨z0, a0, b0, _⟩ := DataW.trod_int Tryd.underlying3 t0
  obtain ⟨z1, a1, b1, _⟩ := DataW.trod_int Tryd.underlying165 t1
  obtain ⟨z2, a2, b2, _⟩ := DataW.trod_int Tryd.underlying165 t2
  have hli : i < opTab.length := hi
  have h2 : (xs.map (·.1))[i]? = (opTab.map fun t => (DataW.agg [.lit (.int .i64 (t.1 : Nat)), .lit (.int .i64 (t.2.1 : Nat)), .lit (.int .i64 (t.2.2 : Nat))] : DataW Unit))[i]? := by rw [← hx1.1]
  rw [List.getElem?_map, List.getElem?_map, List.getElem?_eq_getElem hxi, List.getElem?_eq_getElem hli, hx, b0, b1, b2] at h2
  simp only [Option.map_some, Option.some.injEq, DataW.agg.injEq, List.cons.injEq, DataW.lit.injEq, Lit.int.injEq, true_and, and_true] at h2
  obtain ⟨e0, e1, e2⟩ := h2
  have g : opTab.getD i (0, 0, 0) = opTab[i]'hli := by rw [List.getD_eq_getElem?_getD, List.getElem?_eq_getElem hli]; rfl
  have hN : ((opN i : Nat) : Int) = z0 := by unfold opN; rw [g, e0]
  have hK : ((opK i : Nat) : Int) = z1 := by unfold opK; rw [g, e1]
  have hM : ((opM i : Nat) : Int) = z2 := by unfold opM; rw [g, e2]
  rw [hN, hK, hM, hcell, hcell, hcell, ← Array.getElem?_toList, ← Array.getElem?_toList, ← Array.getElem?_toList]
  exact ⟨part_at (j := 0) (by omega) a0, part_at (j := 1) (by omega) a1, part_at (j := 2) (by omega) a2⟩
theorem symT_of_laid {W : World} (h : laidMetH Tryd.prog laidT W) : Syms W ∧ SymY W ∧ TypY W := by
  rw [MakeChecks.laidMetH_plain _ _ _ (by kernel_rfl)] at h
  obtain ⟨ps, ⟨g0, t0, cs0, f0, p0, q0, hg0, ht0, hv0, hd0, ⟨g1, t1, cs1, f1, p1, q1, hg1, ht1, hv1, hd1, ⟨g2, t2, cs2, f2, p2, q2, hg2, ht2, hv2, hd2, _⟩, _⟩, _⟩, _, _⟩ := h
  obtain rfl := Option.some.inj (gSym.symm.trans hg0)
  obtain rfl := Option.some.inj (tSym.symm.trans ht0)
  obtain rfl := Option.some.inj (gSymY.symm.trans hg1)
  obtain rfl := Option.some.inj (tSymY.symm.trans ht1)
  obtain rfl := Option.some.inj (gTypT.symm.trans hg2)
  obtain rfl := Option.some.inj (tTypT.symm.trans ht2)
  have hc := tabS hv0 hd0 gSym
  have hc2 := tabY hv1 hd1 gSymY
  have hc3 := tabT hv2 hd2
  exact ⟨⟨World.block_lt_of_cell? W ⟨0, 0, none⟩ (hc 0 (by decide)), hc⟩, ⟨World.block_lt_of_cell? W ⟨2, 0, none⟩ (hc2 0 (by decide)), hc2⟩, ⟨World.block_lt_of_cell? W ⟨1, 0, none⟩ (hc3 0 (by decide)).1, hc3⟩⟩
end Go.Proofs.YtodmkmoglchoeaaDoor
