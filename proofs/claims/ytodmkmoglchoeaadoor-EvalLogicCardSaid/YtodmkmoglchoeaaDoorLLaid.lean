/- The table of symbols, as the row lays it. -/
import Derived.Test.YtodmkmoglchoeaaDoorJLScan
import Derived.Test.YtodmkmoglchoeaaDoorOpenRow
import Derived.Test.YtodmkmoglchoeaaDoorRows
import Derived.LaidMore
import Derived.OpenShut
import Derived.Stop.Joined
namespace Go.Proofs.YtodmkmoglchoeaaDoor
open Go.ChangeShapes Go.WideShapes Go.ChangeAt Go.RowKit Go.Joins

theorem gSym : Tryd.prog.globalNamed "matchguard/lexer.symbols" = some 0 := by kernel_rfl
theorem tSym : (Tryd.prog.globals[0]?).map (·.type) = some 156 := by kernel_rfl
abbrev laidS : List (String × DataW Unit) := [("matchguard/lexer.symbols", Rows.laid_matchguard_lexer_symbols)]
theorem door_met (os : Os) (args : Array Value) : laidMetH Tryd.prog laidS ((World.doorLaid Tryd.prog 400 os).forCall (fun _ _ => 0) ⟨#[], args, []⟩).memory :=
  laidMetH_of_parts3 (fuel := 8) (laidMet_of_run' 8 (by kernel_rfl) (by kernel_rfl)) (by kernel_rfl) (by kernel_rfl)
theorem symD : (Rows.laid_matchguard_lexer_symbols : DataW Unit) = .agg (symL.map fun s => .lit (.string s.data.toList)) := rfl
theorem syms_of_laid {W : World} (h : laidMetH Tryd.prog laidS W) : Syms W := by
  rw [MakeChecks.laidMetH_plain _ _ _ (by kernel_rfl)] at h
  obtain ⟨ps, ⟨g0, t0, cs0, f0, p0, q0, hg0, ht0, hv0, hd0, _⟩, _, _⟩ := h
  obtain rfl := Option.some.inj (gSym.symm.trans hg0)
  obtain rfl := Option.some.inj (tSym.symm.trans ht0)
  have hcell := World.var?_cell hg0 hv0
  rw [symD] at hd0
  obtain ⟨xs, m1, rfl, hx1, hlen, hn3, hel⟩ := DataW.trod_array Tryd.underlying156 hd0
  have c1 : Tryd.prog.cellsOf 9 = 1 := by kernel_rfl
  simp only [Prod.mk.injEq, DataW.agg.injEq] at hx1
  have hc : ∀ i, i < 15 → W.cell? ⟨0, i, none⟩ = some (symV i) := by
    intro i hi
    rw [hcell i]
    have h1 := hel i hi
    rw [c1, Nat.mul_one] at h1
    have hxi : i < xs.length := by rw [hn3]; exact hi
    rw [List.getElem?_eq_getElem hxi] at h1
    obtain ⟨s, e1, e2, _⟩ := DataW.trod_string Tryd.underlying9 h1
    have hli : i < symL.length := hi
    have h2 : (xs.map (·.1))[i]? = (symL.map fun s => (DataW.lit (.string s.data.toList) : DataW Unit))[i]? := by rw [← hx1.1]
    rw [List.getElem?_map, List.getElem?_map, List.getElem?_eq_getElem hxi, List.getElem?_eq_getElem hli, e2] at h2
    simp only [Option.map_some, Option.some.injEq, DataW.lit.injEq, Lit.string.injEq] at h2
    have hs : s = symL[i]'hli := by
      apply ByteArray.ext
      exact Array.ext' h2
    have h3 : cs0.toList[i]? = some (.string s) := by
      have : ((cs0.toList.drop i).take 1)[0]? = some (.string s) := by rw [e1]; rfl
      simpa [List.getElem?_take, List.getElem?_drop] using this
    rw [← Array.getElem?_toList, h3, hs]
    unfold symV symK
    rw [List.getD_eq_getElem?_getD, List.getElem?_eq_getElem hli]
    rfl
  exact ⟨World.block_lt_of_cell? W ⟨0, 0, none⟩ (hc 0 (by decide)), hc⟩
end Go.Proofs.YtodmkmoglchoeaaDoor
