/-
  DERIVED. GIVEN WITH THE SEED: THE CARDS: each row of YtmdifoclojogpaaGreatDoorRows.lean that lists a variable, with what it lists TIED to the program's text (the seventh form; the later family's looks); each row that meets fmt, with fmt's text TOLD by the authors' own Lean function (tested against real Go, not proved from fmt's source: count such statements apart). THE CARD IS WHAT COUNTS. Prove the row's statement (the work); the ties are given (YtmdifoclojogpaaGreatDoorTie.lean); close each card by the builder's one call (the guide's Derived/Test/ToyasCard.lean, 'card_holds'). Laid BY PROGRAM, IN A SANDBOX (cutbox-door.mjs). By AI agents, Wed Nov 11 2026. No macro, syntax, notation, axiom, sorry.
-/
import Derived.Test.YtmdifoclojogpaaGreatDoorRows
import GoSem.ClaimSeven
namespace Go.Proofs.YtmdifoclojogpaaGreatDoor
namespace Rows

/-- THE TIED CARD OF 'matchguardlaw07.SyntaxBack'. -/
def syntaxBackCard : Claim7 := { stood := { row := syntaxBackRow, standIns := [], harness := (true, "72b70c33e7cb56eac410e88c7f5ed7fa3d276682b08c0860bc88680293738223"), looks := true }, kinds := [], alts := [], laidByText := true, laidKinds := [.data, .data], laidTests := true, laidLooks := .later }
def SyntaxBackCardSaid : Prop := Claim7.holds Tryz.pinned (.plain (OpenSpec.ofChange syntaxBackSpec)) syntaxBackCard

/-- THE TIED CARD OF 'matchguardlaw08.TypesChecks'. -/
def typesChecksCard : Claim7 := { stood := { row := typesChecksRow, standIns := [], harness := (true, "72b70c33e7cb56eac410e88c7f5ed7fa3d276682b08c0860bc88680293738223"), looks := true }, kinds := [], alts := [], laidByText := true, laidKinds := [.data, .data, .data], laidTests := true, laidLooks := .later }
def TypesChecksCardSaid : Prop := Claim7.holds Tryz.pinned (.plain (OpenSpec.ofChange typesChecksSpec)) typesChecksCard

/-- THE TIED CARD OF 'matchguardlaw08.TypesCompiles'. -/
def typesCompilesCard : Claim7 := { stood := { row := typesCompilesRow, standIns := [], harness := (true, "72b70c33e7cb56eac410e88c7f5ed7fa3d276682b08c0860bc88680293738223"), looks := true }, kinds := [], alts := [], laidByText := true, laidKinds := [.data, .data, .data], laidTests := true, laidLooks := .later }
def TypesCompilesCardSaid : Prop := Claim7.holds Tryz.pinned (.plain (OpenSpec.ofChange typesCompilesSpec)) typesCompilesCard

/-- THE TIED CARD OF 'matchguardlaw08.TypesAll'. -/
def typesAllCard : Claim7 := { stood := { row := typesAllRow, standIns := [], harness := (true, "72b70c33e7cb56eac410e88c7f5ed7fa3d276682b08c0860bc88680293738223"), looks := true }, kinds := [], alts := [], laidByText := true, laidKinds := [.data, .data, .data], laidTests := true, laidLooks := .later }
def TypesAllCardSaid : Prop := Claim7.holds Tryz.pinned (.plain (OpenSpec.ofChange typesAllSpec)) typesAllCard

/-- THE SECOND FORM's CARD OF 'matchguardlaw07.SyntaxBack'. -/
def syntaxBackUptoCard : Claim7 := { stood := { row := syntaxBackUptoRow, standIns := [], harness := (true, "72b70c33e7cb56eac410e88c7f5ed7fa3d276682b08c0860bc88680293738223"), looks := true }, kinds := [], alts := [], laidByText := true, laidKinds := [.data, .data], laidTests := true, laidLooks := .later }
def SyntaxBackUptoCardSaid : Prop := Claim7.holds Tryz.pinned (.plain (OpenSpec.upto syntaxBackSpec)) syntaxBackUptoCard

/-- THE SECOND FORM's CARD OF 'matchguardlaw08.TypesChecks'. -/
def typesChecksUptoCard : Claim7 := { stood := { row := typesChecksUptoRow, standIns := [], harness := (true, "72b70c33e7cb56eac410e88c7f5ed7fa3d276682b08c0860bc88680293738223"), looks := true }, kinds := [], alts := [], laidByText := true, laidKinds := [.data, .data, .data], laidTests := true, laidLooks := .later }
def TypesChecksUptoCardSaid : Prop := Claim7.holds Tryz.pinned (.plain (OpenSpec.upto typesChecksSpec)) typesChecksUptoCard

/-- THE SECOND FORM's CARD OF 'matchguardlaw08.TypesCompiles'. -/
def typesCompilesUptoCard : Claim7 := { stood := { row := typesCompilesUptoRow, standIns := [], harness := (true, "72b70c33e7cb56eac410e88c7f5ed7fa3d276682b08c0860bc88680293738223"), looks := true }, kinds := [], alts := [], laidByText := true, laidKinds := [.data, .data, .data], laidTests := true, laidLooks := .later }
def TypesCompilesUptoCardSaid : Prop := Claim7.holds Tryz.pinned (.plain (OpenSpec.upto typesCompilesSpec)) typesCompilesUptoCard

/-- THE SECOND FORM's CARD OF 'matchguardlaw08.TypesAll'. -/
def typesAllUptoCard : Claim7 := { stood := { row := typesAllUptoRow, standIns := [], harness := (true, "72b70c33e7cb56eac410e88c7f5ed7fa3d276682b08c0860bc88680293738223"), looks := true }, kinds := [], alts := [], laidByText := true, laidKinds := [.data, .data, .data], laidTests := true, laidLooks := .later }
def TypesAllUptoCardSaid : Prop := Claim7.holds Tryz.pinned (.plain (OpenSpec.upto typesAllSpec)) typesAllUptoCard
end Rows
end Go.Proofs.YtmdifoclojogpaaGreatDoor
