/-
  DERIVED. GIVEN WITH THE SEED: THE CARDS: each row of YtodmkmoglchoeaaGreatDoorRows.lean that lists a variable, with what it lists TIED to the program's text (the seventh form; the later family's looks); each row that meets fmt, with fmt's text TOLD by the authors' own Lean function (tested against real Go, not proved from fmt's source: count such statements apart). THE CARD IS WHAT COUNTS. Prove the row's statement (the work); the ties are given (YtodmkmoglchoeaaGreatDoorTie.lean); close each card by the builder's one call (the guide's Derived/Test/ToyasCard.lean, 'card_holds'). Laid BY PROGRAM, IN A SANDBOX (cutbox-door.mjs). By AI agents, Wed Nov 11 2026. No macro, syntax, notation, axiom, sorry.
-/
import Derived.Test.YtodmkmoglchoeaaGreatDoorRows
import GoSem.ClaimSeven
namespace Go.Proofs.YtodmkmoglchoeaaGreatDoor
namespace Rows

/-- THE TIED CARD OF 'matchguardlaw08.TypesAll'. -/
def typesAllCard : Claim7 := { stood := { row := typesAllRow, standIns := [], harness := (true, "acc0427f69493ca0b3c43904871b11d0d8488ff2c0fca137155a582d21148757"), looks := true }, kinds := [], alts := [], laidByText := true, laidKinds := [.data, .data, .data], laidTests := true, laidLooks := .later }
def TypesAllCardSaid : Prop := Claim7.holds Tryz.pinned (.plain (OpenSpec.ofChange typesAllSpec)) typesAllCard

/-- THE TIED CARD OF 'matchguardlaw09.EvalBinds'. -/
def evalBindsCard : Claim7 := { stood := { row := evalBindsRow, standIns := [], harness := (true, "acc0427f69493ca0b3c43904871b11d0d8488ff2c0fca137155a582d21148757"), looks := true }, kinds := [], alts := [], laidByText := true, laidKinds := [.data, .data, .data], laidTests := true, laidLooks := .later }
def EvalBindsCardSaid : Prop := Claim7.holds Tryz.pinned (.plain (OpenSpec.ofChange evalBindsSpec)) evalBindsCard

/-- THE TIED CARD OF 'matchguardlaw09.EvalMeans'. -/
def evalMeansCard : Claim7 := { stood := { row := evalMeansRow, standIns := [], harness := (true, "acc0427f69493ca0b3c43904871b11d0d8488ff2c0fca137155a582d21148757"), looks := true }, kinds := [], alts := [], laidByText := true, laidKinds := [.data, .data, .data], laidTests := true, laidLooks := .later }
def EvalMeansCardSaid : Prop := Claim7.holds Tryz.pinned (.plain (OpenSpec.ofChange evalMeansSpec)) evalMeansCard

/-- THE TIED CARD OF 'matchguardlaw09.EvalAdmits'. -/
def evalAdmitsCard : Claim7 := { stood := { row := evalAdmitsRow, standIns := [], harness := (true, "acc0427f69493ca0b3c43904871b11d0d8488ff2c0fca137155a582d21148757"), looks := true }, kinds := [], alts := [], laidByText := true, laidKinds := [.data, .data, .data], laidTests := true, laidLooks := .later }
def EvalAdmitsCardSaid : Prop := Claim7.holds Tryz.pinned (.plain (OpenSpec.ofChange evalAdmitsSpec)) evalAdmitsCard

/-- THE SECOND FORM's CARD OF 'matchguardlaw08.TypesAll'. -/
def typesAllUptoCard : Claim7 := { stood := { row := typesAllUptoRow, standIns := [], harness := (true, "acc0427f69493ca0b3c43904871b11d0d8488ff2c0fca137155a582d21148757"), looks := true }, kinds := [], alts := [], laidByText := true, laidKinds := [.data, .data, .data], laidTests := true, laidLooks := .later }
def TypesAllUptoCardSaid : Prop := Claim7.holds Tryz.pinned (.plain (OpenSpec.upto typesAllSpec)) typesAllUptoCard

/-- THE SECOND FORM's CARD OF 'matchguardlaw09.EvalBinds'. -/
def evalBindsUptoCard : Claim7 := { stood := { row := evalBindsUptoRow, standIns := [], harness := (true, "acc0427f69493ca0b3c43904871b11d0d8488ff2c0fca137155a582d21148757"), looks := true }, kinds := [], alts := [], laidByText := true, laidKinds := [.data, .data, .data], laidTests := true, laidLooks := .later }
def EvalBindsUptoCardSaid : Prop := Claim7.holds Tryz.pinned (.plain (OpenSpec.upto evalBindsSpec)) evalBindsUptoCard

/-- THE SECOND FORM's CARD OF 'matchguardlaw09.EvalMeans'. -/
def evalMeansUptoCard : Claim7 := { stood := { row := evalMeansUptoRow, standIns := [], harness := (true, "acc0427f69493ca0b3c43904871b11d0d8488ff2c0fca137155a582d21148757"), looks := true }, kinds := [], alts := [], laidByText := true, laidKinds := [.data, .data, .data], laidTests := true, laidLooks := .later }
def EvalMeansUptoCardSaid : Prop := Claim7.holds Tryz.pinned (.plain (OpenSpec.upto evalMeansSpec)) evalMeansUptoCard

/-- THE SECOND FORM's CARD OF 'matchguardlaw09.EvalAdmits'. -/
def evalAdmitsUptoCard : Claim7 := { stood := { row := evalAdmitsUptoRow, standIns := [], harness := (true, "acc0427f69493ca0b3c43904871b11d0d8488ff2c0fca137155a582d21148757"), looks := true }, kinds := [], alts := [], laidByText := true, laidKinds := [.data, .data, .data], laidTests := true, laidLooks := .later }
def EvalAdmitsUptoCardSaid : Prop := Claim7.holds Tryz.pinned (.plain (OpenSpec.upto evalAdmitsSpec)) evalAdmitsUptoCard
end Rows
end Go.Proofs.YtodmkmoglchoeaaGreatDoor
