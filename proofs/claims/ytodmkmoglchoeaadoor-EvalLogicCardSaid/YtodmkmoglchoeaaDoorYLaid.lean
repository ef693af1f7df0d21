/- Both tables of symbols, as the rows of layer 7 lay them. -/
import Derived.Test.YtodmkmoglchoeaaDoorLLaid
import Derived.Test.YtodmkmoglchoeaaDoorJYProg
namespace Go.Proofs.YtodmkmoglchoeaaDoor
open Go.ChangeShapes Go.WideShapes Go.ChangeAt Go.RowKit Go.Joins

theorem gSymY : Tryd.prog.globalNamed "matchguard/syntax.symbols" = some 2 := by kernel_rfl
theorem tSymY : (Tryd.prog.globals[2]?).map (·.type) = some 210 := by kernel_rfl
abbrev laidY : List (String × DataW Unit) := [("matchguard/lexer.symbols", Rows.laid_matchguard_lexer_symbols), ("matchguard/syntax.symbols", Rows.laid_matchguard_syntax_symbols)]
theorem door_metY (os : Os) (args : Array Value) : laidMetH Tryd.prog laidY ((World.doorLaid Tryd.prog 400 os).forCall (fun _ _ => 0) ⟨#[], args, []⟩).memory :=
  laidMetH_of_parts3 (fuel := 8) (laidMet_of_run' 8 (by kernel_rfl) (by kernel_rfl)) (by kernel_rfl) (by kernel_rfl)
theorem symYD : (Rows.laid_matchguard_syntax_symbols : DataW Unit) = .agg (syL.map fun s => .lit (.string s.data.toList)) := rfl
theorem tabS {W : World} {cs0 : Array Value} {f0 : Nat} {p0 : List MemPlace} (hv0 : W.var? Tryd.prog "matchguard/lexer.symbols" = some cs0) (hd0 : DataW.trod (fun _ => ()) Tryd.prog W 0 (fun _ => true) false f0 156 cs0.toList = some (Rows.laid_matchguard_lexer_symbols, p0)) (hg0 : Tryd.prog.globalNamed "matchguard/lexer.symbols" = some 0) : ∀ i, i < 15 → W.cell? ⟨0, i, none⟩ = some (.string (symL.getD i ⟨#[]⟩)) := by
  have hcell := World.var?_cell hg0 hv0
  rw [symD] at hd0
  obtain ⟨xs, m1, rfl, hx1, hlen, hn3, hel⟩ := DataW.trod_array Tryd.underlying156 hd0
  have c1 : Tryd.prog.cellsOf 9 = 1 := by kernel_rfl
  simp only [Prod.mk.injEq, DataW.agg.injEq] at hx1
  intro i hi
  rw [hcell i]
  have h1 := hel i hi
  rw [c1, Nat.mul_one] at h1
  have hxi : i < xs.length := by rw [hn3]; exact hi
  rw [List.getElem?_eq_getElem hxi] at h1
  obtain ⟨s, e1, e2, _⟩ := DataW.trod_string Tryd.underlying9 h1
  have hli : i < symL.length := hi
  have h2 : (xs.map (·.1))[i]? = (symL.map fun s => (DataW.lit (.string s.data.toList) : DataW Unit))[i]? := by rw [← hx1.1]
  rw [List.getElem?_map, List.getElem?_map, List.getElem?_eq_getElem hxi, List.getElem?_eq_getElem hli, e2] at h2
  simp only [Option.map_some, Option.some.injEq, DataW.lit.injEq, Lit.string.injEq] at h2
  have hs : s = symL[i]'hli := by
    apply ByteArray.ext
    exact Array.ext' h2
  have h3 : cs0.toList[i]? = some (.string s) := by
    have : ((cs0.toList.drop i).take 1)[0]? = some (.string s) := by rw [e1]; rfl
    simpa [List.getElem?_take, List.getElem?_drop] using this
  rw [← Array.getElem?_toList, h3, hs, List.getD_eq_getElem?_getD, List.getElem?_eq_getElem hli]
  rfl
theorem tabY {W : World} {cs0 : Array Value} {f0 : Nat} {p0 : List MemPlace} (hv0 : W.var? Tryd.prog "matchguard/syntax.symbols" = some cs0) (hd0 : DataW.trod (fun _ => ()) Tryd.prog W 0 (fun _ => true) false f0 210 cs0.toList = some (Rows.laid_matchguard_syntax_symbols, p0)) (hg0 : Tryd.prog.globalNamed "matchguard/syntax.symbols" = some 2) : ∀ i, i < 17 → W.cell? ⟨2, i, none⟩ = some (.string (syL.getD i ⟨#[]⟩)) := by
  have hcell := World.var?_cell hg0 hv0
  rw [symYD] at hd0
  obtain ⟨xs, m1, rfl, hx1, hlen, hn3, hel⟩ := DataW.trod_array Tryd.underlying210 hd0
  have c1 : Tryd.prog.cellsOf 9 = 1 := by kernel_rfl
  simp only [Prod.mk.injEq, DataW.agg.injEq] at hx1
  intro i hi
  rw [hcell i]
  have h1 := hel i hi
  rw [c1, Nat.mul_one] at h1
  have hxi : i < xs.length := by rw [hn3]; exact hi
  rw [List.getElem?_eq_getElem hxi] at h1
  obtain ⟨s, e1, e2, _⟩ := DataW.trod_string Tryd.underlying9 h1
  have hli : i < syL.length := hi
  have h2 : (xs.map (·.1))[i]? = (syL.map fun s => (DataW.lit (.string s.data.toList) : DataW Unit))[i]? := by rw [← hx1.1]
  rw [List.getElem?_map, List.getElem?_map, List.getElem?_eq_getElem hxi, List.getElem?_eq_getElem hli, e2] at h2
  simp only [Option.map_some, Option.some.injEq, DataW.lit.injEq, Lit.string.injEq] at h2
  have hs : s = syL[i]'hli := by
    apply ByteArray.ext
    exact Array.ext' h2
  have h3 : cs0.toList[i]? = some (.string s) := by
    have : ((cs0.toList.drop i).take 1)[0]? = some (.string s) := by rw [e1]; rfl
    simpa [List.getElem?_take, List.getElem?_drop] using this
  rw [← Array.getElem?_toList, h3, hs, List.getD_eq_getElem?_getD, List.getElem?_eq_getElem hli]
  rfl
theorem symY_of_laid {W : World} (h : laidMetH Tryd.prog laidY W) : Syms W ∧ SymY W := by
  rw [MakeChecks.laidMetH_plain _ _ _ (by kernel_rfl)] at h
  obtain ⟨ps, ⟨g0, t0, cs0, f0, p0, q0, hg0, ht0, hv0, hd0, ⟨g1, t1, cs1, f1, p1, q1, hg1, ht1, hv1, hd1, _⟩, _⟩, _, _⟩ := h
  obtain rfl := Option.some.inj (gSym.symm.trans hg0)
  obtain rfl := Option.some.inj (tSym.symm.trans ht0)
  obtain rfl := Option.some.inj (gSymY.symm.trans hg1)
  obtain rfl := Option.some.inj (tSymY.symm.trans ht1)
  have hc := tabS hv0 hd0 gSym
  have hc2 := tabY hv1 hd1 gSymY
  exact ⟨⟨World.block_lt_of_cell? W ⟨0, 0, none⟩ (hc 0 (by decide)), hc⟩, ⟨World.block_lt_of_cell? W ⟨2, 0, none⟩ (hc2 0 (by decide)), hc2⟩⟩
end Go.Proofs.YtodmkmoglchoeaaDoor
