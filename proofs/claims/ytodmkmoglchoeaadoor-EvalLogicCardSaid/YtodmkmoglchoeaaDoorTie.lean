/-
  DERIVED. GIVEN WITH THE SEED: THE PROGRAM's TIES (one call each: nine closed facts by the kernel) AND EACH ROW's TIE, after the 31st guide's Derived/Test/Toyas{Tie, Card}.lean. No idea stands in it: it is a product of the set-up. Laid BY PROGRAM, IN A SANDBOX (cutbox-door.mjs). By AI agents, Wed Nov 11 2026. No macro, syntax, notation, axiom, sorry.
-/
import Derived.Test.YtodmkmoglchoeaaDoorRows
import Derived.LaidByTextLater
import Derived.SevenTiedAt
import Derived.LaidSub
import Derived.LaidOnce
namespace Go.Proofs.YtodmkmoglchoeaaDoor
open Go
set_option maxRecDepth 100000
theorem seatTie1 : Tryd.prog.laidByTextLater [("matchguard/lexer.symbols", Rows.laid_matchguard_lexer_symbols), ("matchguard/syntax.symbols", Rows.laid_matchguard_syntax_symbols), ("matchguard/types.operators", Rows.laid_matchguard_types_operators)] [.data, .data, .data] true :=
  Program.laidByTextLater_by_one 40 8 52 (by kernel_rfl) (by kernel_rfl) (by kernel_rfl) (by kernel_rfl) (by kernel_rfl) (by kernel_rfl) (fun _ _ => by kernel_rfl)
theorem noOwnUnsafe : Tryd.pinned.checked.prog.headLifts.contains "ownunsafe" = false := by kernel_rfl
theorem tie : Tryd.prog.laidByTextLater [("matchguard/lexer.symbols", Rows.laid_matchguard_lexer_symbols), ("matchguard/syntax.symbols", Rows.laid_matchguard_syntax_symbols), ("matchguard/types.operators", Rows.laid_matchguard_types_operators)] [.data, .data, .data] true :=
  Program.laidByTextLater.sub seatTie1 ["matchguard/lexer.symbols", "matchguard/syntax.symbols", "matchguard/types.operators"] (by kernel_rfl) (by kernel_rfl)
theorem typesVars_row_tie : Rows.typesVarsRow.laidByTextAt .later Tryd.pinned [.data, .data, .data] true :=
  OpenClaim.laidByTextAt_later rfl rfl tie noOwnUnsafe
theorem evalLogic_row_tie : Rows.evalLogicRow.laidByTextAt .later Tryd.pinned [.data, .data, .data] true :=
  OpenClaim.laidByTextAt_later rfl rfl tie noOwnUnsafe
theorem evalOrder_row_tie : Rows.evalOrderRow.laidByTextAt .later Tryd.pinned [.data, .data, .data] true :=
  OpenClaim.laidByTextAt_later rfl rfl tie noOwnUnsafe
theorem typesVarsUpto_row_tie : Rows.typesVarsUptoRow.laidByTextAt .later Tryd.pinned [.data, .data, .data] true :=
  OpenClaim.laidByTextAt_later rfl rfl tie noOwnUnsafe
theorem evalLogicUpto_row_tie : Rows.evalLogicUptoRow.laidByTextAt .later Tryd.pinned [.data, .data, .data] true :=
  OpenClaim.laidByTextAt_later rfl rfl tie noOwnUnsafe
theorem evalOrderUpto_row_tie : Rows.evalOrderUptoRow.laidByTextAt .later Tryd.pinned [.data, .data, .data] true :=
  OpenClaim.laidByTextAt_later rfl rfl tie noOwnUnsafe
end Go.Proofs.YtodmkmoglchoeaaDoor
