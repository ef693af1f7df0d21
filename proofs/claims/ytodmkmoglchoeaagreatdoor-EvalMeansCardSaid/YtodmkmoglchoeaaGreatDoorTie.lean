/-
  DERIVED. GIVEN WITH THE SEED: THE PROGRAM's TIES (one call each: nine closed facts by the kernel) AND EACH ROW's TIE, after the 31st guide's Derived/Test/Toyas{Tie, Card}.lean. No idea stands in it: it is a product of the set-up. Laid BY PROGRAM, IN A SANDBOX (cutbox-door.mjs). By AI agents, Wed Nov 11 2026. No macro, syntax, notation, axiom, sorry.
-/
import Derived.Test.YtodmkmoglchoeaaGreatDoorRows
import Derived.LaidByTextLater
import Derived.SevenTiedAt
import Derived.LaidSub
import Derived.LaidOnce
namespace Go.Proofs.YtodmkmoglchoeaaGreatDoor
open Go
set_option maxRecDepth 100000
theorem seatTie1 : Tryz.prog.laidByTextLater [("matchguard/lexer.symbols", Rows.laid_matchguard_lexer_symbols), ("matchguard/syntax.symbols", Rows.laid_matchguard_syntax_symbols), ("matchguard/types.operators", Rows.laid_matchguard_types_operators)] [.data, .data, .data] true :=
  Program.laidByTextLater_by_one 40 8 52 (by kernel_rfl) (by kernel_rfl) (by kernel_rfl) (by kernel_rfl) (by kernel_rfl) (by kernel_rfl) (fun _ _ => by kernel_rfl)
theorem noOwnUnsafe : Tryz.pinned.checked.prog.headLifts.contains "ownunsafe" = false := by kernel_rfl
theorem tie : Tryz.prog.laidByTextLater [("matchguard/lexer.symbols", Rows.laid_matchguard_lexer_symbols), ("matchguard/syntax.symbols", Rows.laid_matchguard_syntax_symbols), ("matchguard/types.operators", Rows.laid_matchguard_types_operators)] [.data, .data, .data] true :=
  Program.laidByTextLater.sub seatTie1 ["matchguard/lexer.symbols", "matchguard/syntax.symbols", "matchguard/types.operators"] (by kernel_rfl) (by kernel_rfl)
theorem typesAll_row_tie : Rows.typesAllRow.laidByTextAt .later Tryz.pinned [.data, .data, .data] true :=
  OpenClaim.laidByTextAt_later rfl rfl tie noOwnUnsafe
theorem evalBinds_row_tie : Rows.evalBindsRow.laidByTextAt .later Tryz.pinned [.data, .data, .data] true :=
  OpenClaim.laidByTextAt_later rfl rfl tie noOwnUnsafe
theorem evalMeans_row_tie : Rows.evalMeansRow.laidByTextAt .later Tryz.pinned [.data, .data, .data] true :=
  OpenClaim.laidByTextAt_later rfl rfl tie noOwnUnsafe
theorem evalAdmits_row_tie : Rows.evalAdmitsRow.laidByTextAt .later Tryz.pinned [.data, .data, .data] true :=
  OpenClaim.laidByTextAt_later rfl rfl tie noOwnUnsafe
theorem typesAllUpto_row_tie : Rows.typesAllUptoRow.laidByTextAt .later Tryz.pinned [.data, .data, .data] true :=
  OpenClaim.laidByTextAt_later rfl rfl tie noOwnUnsafe
theorem evalBindsUpto_row_tie : Rows.evalBindsUptoRow.laidByTextAt .later Tryz.pinned [.data, .data, .data] true :=
  OpenClaim.laidByTextAt_later rfl rfl tie noOwnUnsafe
theorem evalMeansUpto_row_tie : Rows.evalMeansUptoRow.laidByTextAt .later Tryz.pinned [.data, .data, .data] true :=
  OpenClaim.laidByTextAt_later rfl rfl tie noOwnUnsafe
theorem evalAdmitsUpto_row_tie : Rows.evalAdmitsUptoRow.laidByTextAt .later Tryz.pinned [.data, .data, .data] true :=
  OpenClaim.laidByTextAt_later rfl rfl tie noOwnUnsafe
end Go.Proofs.YtodmkmoglchoeaaGreatDoor
