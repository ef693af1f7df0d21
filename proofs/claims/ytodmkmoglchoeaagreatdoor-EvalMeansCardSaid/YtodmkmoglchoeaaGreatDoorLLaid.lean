/- The table of symbols, as the row lays it. -/
import Derived.Test.YtodmkmoglchoeaaGreatDoorJLScan
import Derived.Test.YtodmkmoglchoeaaGreatDoorOpen
import Derived.Test.YtodmkmoglchoeaaGreatDoorRows
import Derived.LaidMore
import Derived.OpenShut
import Derived.Stop.Joined
namespace Go.Proofs.YtodmkmoglchoeaaGreatDoor
open Go.ChangeShapes Go.WideShapes Go.ChangeAt Go.RowKit Go.Joins

theorem gSym : Tryz.prog.globalNamed "matchguard/lexer.symbols" = some 0 := by kernel_rfl
theorem tSym : (Tryz.prog.globals[0]?).map (·.type) = some 183 := by kernel_rfl
theorem symD : (Rows.laid_matchguard_lexer_symbols : DataW Unit) = .agg (symL.map fun s => .lit (.string s.data.toList)) := rfl
end Go.Proofs.YtodmkmoglchoeaaGreatDoor
