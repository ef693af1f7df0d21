/-
  DERIVED. GIVEN WITH THE SEED: THE CARDS: each row of YtodmkmoglchoeaaDoorRows.lean that lists a variable, with what it lists TIED to the program's text (the seventh form; the later family's looks); each row that meets fmt, with fmt's text TOLD by the authors' own Lean function (tested against real Go, not proved from fmt's source: count such statements apart). THE CARD IS WHAT COUNTS. Prove the row's statement (the work); the ties are given (YtodmkmoglchoeaaDoorTie.lean); close each card by the builder's one call (the guide's Derived/Test/ToyasCard.lean, 'card_holds'). Laid BY PROGRAM, IN A SANDBOX (cutbox-door.mjs). By AI agents, Wed Nov 11 2026. No macro, syntax, notation, axiom, sorry.
-/
import Derived.Test.YtodmkmoglchoeaaDoorRows
import GoSem.ClaimSeven
namespace Go.Proofs.YtodmkmoglchoeaaDoor
namespace Rows

/-- THE TIED CARD OF 'matchguardlaw08.TypesVars'. -/
def typesVarsCard : Claim7 := { stood := { row := typesVarsRow, standIns := [], harness := (true, "f5bc84234277c34a71b67ceb0f79fd483b830b9f65f819a7e35db535f87be549"), looks := true }, kinds := [], alts := [], laidByText := true, laidKinds := [.data, .data, .data], laidTests := true, laidLooks := .later }
def TypesVarsCardSaid : Prop := Claim7.holds Tryd.pinned (.plain (OpenSpec.ofChange typesVarsSpec)) typesVarsCard

/-- THE TIED CARD OF 'matchguardlaw09.EvalLogic'. -/
def evalLogicCard : Claim7 := { stood := { row := evalLogicRow, standIns := [], harness := (true, "f5bc84234277c34a71b67ceb0f79fd483b830b9f65f819a7e35db535f87be549"), looks := true }, kinds := [], alts := [], laidByText := true, laidKinds := [.data, .data, .data], laidTests := true, laidLooks := .later }
def EvalLogicCardSaid : Prop := Claim7.holds Tryd.pinned (.plain (OpenSpec.ofChange evalLogicSpec)) evalLogicCard

/-- THE TIED CARD OF 'matchguardlaw09.EvalOrder'. -/
def evalOrderCard : Claim7 := { stood := { row := evalOrderRow, standIns := [], harness := (true, "f5bc84234277c34a71b67ceb0f79fd483b830b9f65f819a7e35db535f87be549"), looks := true }, kinds := [], alts := [], laidByText := true, laidKinds := [.data, .data, .data], laidTests := true, laidLooks := .later }
def EvalOrderCardSaid : Prop := Claim7.holds Tryd.pinned (.plain (OpenSpec.ofChange evalOrderSpec)) evalOrderCard

/-- THE SECOND FORM's CARD OF 'matchguardlaw08.TypesVars'. -/
def typesVarsUptoCard : Claim7 := { stood := { row := typesVarsUptoRow, standIns := [], harness := (true, "f5bc84234277c34a71b67ceb0f79fd483b830b9f65f819a7e35db535f87be549"), looks := true }, kinds := [], alts := [], laidByText := true, laidKinds := [.data, .data, .data], laidTests := true, laidLooks := .later }
def TypesVarsUptoCardSaid : Prop := Claim7.holds Tryd.pinned (.plain (OpenSpec.upto typesVarsSpec)) typesVarsUptoCard

/-- THE SECOND FORM's CARD OF 'matchguardlaw09.EvalLogic'. -/
def evalLogicUptoCard : Claim7 := { stood := { row := evalLogicUptoRow, standIns := [], harness := (true, "f5bc84234277c34a71b67ceb0f79fd483b830b9f65f819a7e35db535f87be549"), looks := true }, kinds := [], alts := [], laidByText := true, laidKinds := [.data, .data, .data], laidTests := true, laidLooks := .later }
def EvalLogicUptoCardSaid : Prop := Claim7.holds Tryd.pinned (.plain (OpenSpec.upto evalLogicSpec)) evalLogicUptoCard

/-- THE SECOND FORM's CARD OF 'matchguardlaw09.EvalOrder'. -/
def evalOrderUptoCard : Claim7 := { stood := { row := evalOrderUptoRow, standIns := [], harness := (true, "f5bc84234277c34a71b67ceb0f79fd483b830b9f65f819a7e35db535f87be549"), looks := true }, kinds := [], alts := [], laidByText := true, laidKinds := [.data, .data, .data], laidTests := true, laidLooks := .later }
def EvalOrderUptoCardSaid : Prop := Claim7.holds Tryd.pinned (.plain (OpenSpec.upto evalOrderSpec)) evalOrderUptoCard
end Rows
end Go.Proofs.YtodmkmoglchoeaaDoor
