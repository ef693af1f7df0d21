/- Both tables of symbols, as the rows of layer 7 lay them. -/
import Derived.Test.YtodmkmoglchoeaaGreatDoorLLaid
import Derived.Test.YtodmkmoglchoeaaGreatDoorJYProg
namespace Go.Proofs.YtodmkmoglchoeaaGreatDoor
open Go.ChangeShapes Go.WideShapes Go.ChangeAt Go.RowKit Go.Joins

theorem gSymY : Tryz.prog.globalNamed "matchguard/syntax.symbols" = some 2 := by kernel_rfl
theorem tSymY : (Tryz.prog.globals[2]?).map (·.type) = some 267 := by kernel_rfl
theorem symYD : (Rows.laid_matchguard_syntax_symbols : DataW Unit) = .agg (syL.map fun s => .lit (.string s.data.toList)) := rfl
theorem tabS {W : World} {cs0 : Array Value} {f0 : Nat} {p0 : List MemPlace} (hv0 : W.var? Tryz.prog "matchguard/lexer.symbols" = some cs0) (hd0 : DataW.trod (fun _ => ()) Tryz.prog W 0 (fun _ => true) false f0 183 cs0.toList = some (Rows.laid_matchguard_lexer_symbols, p0)) (hg0 : Tryz.prog.globalNamed "matchguard/lexer.symbols" = some 0) : ∀ i, i < 15 → W.cell? ⟨0, i, none⟩ = some (.string (symL.getD i ⟨#[]⟩)) := by
  have hcell := World.var?_cell hg0 hv0
  rw [symD] at hd0
  obtain ⟨xs, m1, rfl, hx1, hlen, hn3, hel⟩ := DataW.trod_array Tryz.underlying183 hd0
  have c1 : Tryz.prog.cellsOf 9 = 1 := by kernel_rfl
  simp only [Prod.mk.injEq, DataW.agg.injEq] at hx1
  intro i hi
  rw [hcell i]
  have h1 := hel i hi
  rw [c1, Nat.mul_one] at h1
  have hxi : i < xs.length := by rw [hn3]; exact hi
  rw [List.getElem?_eq_getElem hxi] at h1
  obtain ⟨s, e1, e2, _⟩ := DataW.trod_string Tryz.underlying9 h1
  have hli : i < symL.length := hi
  have h2 : (xs.map (·.1))[i]? = (symL.map fun s => (DataW.lit (.string s.data.toList) : DataW Unit))[i]? := by rw [← hx1.1]
  rw [List.getElem?_map, List.getElem?_map, List.getElem?_eq_getElem hxi, List.getElem?_eq_getElem hli, e2] at h2
  simp only [Option.map_some, Option.some.injEq, DataW.lit.injEq, Lit.string.injEq] at h2
  have hs : s = symL[i]'hli := by
    apply ByteArray.ext
    exact Array.ext' h2
  have h3 : cs0.toList[i]? = some (.string s) := by
    have : ((cs0.toList.drop i).take 1)[0]? = some (.string s) := by rw [e1]; rfl
    simpa [List.getElem?_take, List.getElem?_drop] using this
  rw [← Array.getElem?_toList, h3, hs, List.getD_eq_getElem?_getD, List.getElem?_eq_getElem hli]
  rfl
theorem tabY {W : World} {cs0 : Array Value} {f0 : Nat} {p0 : List MemPlace} (hv0 : W.var? Tryz.prog "matchguard/syntax.symbols" = some cs0) (hd0 : DataW.trod (fun _ => ()) Tryz.prog W 0 (fun _ => true) false f0 267 cs0.toList = some (Rows.laid_matchguard_syntax_symbols, p0)) (hg0 : Tryz.prog.globalNamed "matchguard/syntax.symbols" = some 2) : ∀ i, i < 17 → W.cell? ⟨2, i, none⟩ = some (.string (syL.getD i ⟨#[]⟩)) := by
  have hcell := World.var?_cell hg0 hv0
  rw [symYD] at hd0
  obtain ⟨xs, m1, rfl, hx1, hlen, hn3, hel⟩ := DataW.trod_array Tryz.underlying267 hd0
  have c1 : Tryz.prog.cellsOf 9 = 1 := by kernel_rfl
  simp only [Prod.mk.injEq, DataW.agg.injEq] at hx1
  intro i hi
  rw [hcell i]
  have h1 := hel i hi
  rw [c1, Nat.mul_one] at h1
  have hxi : i < xs.length := by rw [hn3]; exact hi
  rw [List.getElem?_eq_getElem hxi] at h1
  obtain ⟨s, e1, e2, _⟩ := DataW.trod_string Tryz.underlying9 h1
  have hli : i < syL.length := hi
  have h2 : (xs.map (·.1))[i]? = (syL.map fun s => (DataW.lit (.string s.data.toList) : DataW Unit))[i]? := by rw [← hx1.1]
  rw [List.getElem?_map, List.getElem?_map, List.getElem?_eq_getElem hxi, List.getElem?_eq_getElem hli, e2] at h2
  simp only [Option.map_some, Option.some.injEq, DataW.lit.injEq, Lit.string.injEq] at h2
  have hs : s = syL[i]'hli := by
    apply ByteArray.ext
    exact Array.ext' h2
  have h3 : cs0.toList[i]? = some (.string s) := by
    have : ((cs0.toList.drop i).take 1)[0]? = some (.string s) := by rw [e1]; rfl
    simpa [List.getElem?_take, List.getElem?_drop] using this
  rw [← Array.getElem?_toList, h3, hs, List.getD_eq_getElem?_getD, List.getElem?_eq_getElem hli]
  rfl
end Go.Proofs.YtodmkmoglchoeaaGreatDoor
