/-
  No cell of these rows narrows 'for every input' (looked for: loops, veiled, ifaces, maps, wideKeys, modest, calm, conditions, laid).
  DERIVED. THE GIVEN ROWS OF THIS SEAT. 5 by the template 'for every input the law returns true; each argument reads behind the call as it read before'; 0 by the template 'total and deterministic' (their statements: YtbacclhnbecojaaTotals.lean).
  GIVEN WITH THE SEED: the statements are not yours to turn. If you find one false, say at which input.
  Laid BY PROGRAM, IN A SANDBOX (cutbox-rows.mjs): the forced cells as the released guide's own fill.sh prints them over the translation 5afe69e067d96ed2… (all of the seat's roots in one cut). By AI agents, Wed Nov 11 2026. No macro, syntax, notation, axiom, sorry.
-/
import Derived.Test.YtbacclhnbecojaaChecked
import GoSem.Claim
import GoSem.ClaimJoined
import GoSem.ClaimMapViews
import Derived.JoinedTies
import Derived.KernelRfl
namespace Go.Proofs.Ytbacclhnbecojaa
/- THE CELL 'sum', in the pinned program and in every row, IS THE sha256 OF THE DUMP (.gsa) THAT YtbacclhnbecojaaProg.lean LOADS. Nothing in Lean hashes anything: it is a label: what it is worth is what the hold of that sum in a sandbox is worth. -/
noncomputable def Try.pinned : Pinned := { name := "ytbacclhnbecojaa", sum := "5afe69e067d96ed2a5ada99aba427d126046e0b85a52ffc16fd9f9e5526f1363", checked := Try.checked }
namespace Rows
def none {H : Type} : Left H := { results := [], args := [] }

/-- 'matchguardlaw05.NumberSums': WHATEVER THE INPUT: true; the input reads as it did. -/
def numberSumsSpec : ChangeSpec := { name := "numberSums", fn := fun _ => fun
  | [d1, d2, d3] => { results := [.lit (.bool true)], args := [d1, d2, d3] }
  | _ => none }
def numberSumsRow : OpenClaim := { program := "ytbacclhnbecojaa", sum := "5afe69e067d96ed2a5ada99aba427d126046e0b85a52ffc16fd9f9e5526f1363", func := "matchguard/matchguardlaw05.NumberSums", spec := "numberSums", apart := false }
def NumberSumsSaid : Prop := numberSumsRow.holds Try.pinned (OpenSpec.ofChange numberSumsSpec)

/-- ITS FALSE NEIGHBOUR: 'it returns false'. Refute it at one input. -/
def numberSumsWrong : ChangeSpec := { name := "numberSums", fn := fun _ => fun
  | [d1, d2, d3] => { results := [.lit (.bool false)], args := [d1, d2, d3] }
  | _ => none }
def NumberSumsWrongFalsely : Prop := numberSumsRow.holds Try.pinned (OpenSpec.ofChange numberSumsWrong)

/-- 'matchguardlaw05.NumberOrders': WHATEVER THE INPUT: true; the input reads as it did. -/
def numberOrdersSpec : ChangeSpec := { name := "numberOrders", fn := fun _ => fun
  | [d1, d2, d3, d4] => { results := [.lit (.bool true)], args := [d1, d2, d3, d4] }
  | _ => none }
def numberOrdersRow : OpenClaim := { program := "ytbacclhnbecojaa", sum := "5afe69e067d96ed2a5ada99aba427d126046e0b85a52ffc16fd9f9e5526f1363", func := "matchguard/matchguardlaw05.NumberOrders", spec := "numberOrders", apart := false }
def NumberOrdersSaid : Prop := numberOrdersRow.holds Try.pinned (OpenSpec.ofChange numberOrdersSpec)

/-- ITS FALSE NEIGHBOUR: 'it returns false'. Refute it at one input. -/
def numberOrdersWrong : ChangeSpec := { name := "numberOrders", fn := fun _ => fun
  | [d1, d2, d3, d4] => { results := [.lit (.bool false)], args := [d1, d2, d3, d4] }
  | _ => none }
def NumberOrdersWrongFalsely : Prop := numberOrdersRow.holds Try.pinned (OpenSpec.ofChange numberOrdersWrong)

/-- 'matchguardlaw05.NumberValues': WHATEVER THE INPUT: true; the input reads as it did. -/
def numberValuesSpec : ChangeSpec := { name := "numberValues", fn := fun _ => fun
  | [d1, d2, d3] => { results := [.lit (.bool true)], args := [d1, d2, d3] }
  | _ => none }
def numberValuesRow : OpenClaim := { program := "ytbacclhnbecojaa", sum := "5afe69e067d96ed2a5ada99aba427d126046e0b85a52ffc16fd9f9e5526f1363", func := "matchguard/matchguardlaw05.NumberValues", spec := "numberValues", apart := false }
def NumberValuesSaid : Prop := numberValuesRow.holds Try.pinned (OpenSpec.ofChange numberValuesSpec)

/-- ITS FALSE NEIGHBOUR: 'it returns false'. Refute it at one input. -/
def numberValuesWrong : ChangeSpec := { name := "numberValues", fn := fun _ => fun
  | [d1, d2, d3] => { results := [.lit (.bool false)], args := [d1, d2, d3] }
  | _ => none }
def NumberValuesWrongFalsely : Prop := numberValuesRow.holds Try.pinned (OpenSpec.ofChange numberValuesWrong)

/-- 'matchguardlaw05.NumberLiterals': WHATEVER THE INPUT: true; the input reads as it did. -/
def numberLiteralsSpec : ChangeSpec := { name := "numberLiterals", fn := fun _ => fun
  | [d1, d2, d3, d4, d5] => { results := [.lit (.bool true)], args := [d1, d2, d3, d4, d5] }
  | _ => none }
def numberLiteralsRow : OpenClaim := { program := "ytbacclhnbecojaa", sum := "5afe69e067d96ed2a5ada99aba427d126046e0b85a52ffc16fd9f9e5526f1363", func := "matchguard/matchguardlaw05.NumberLiterals", spec := "numberLiterals", apart := false }
def NumberLiteralsSaid : Prop := numberLiteralsRow.holds Try.pinned (OpenSpec.ofChange numberLiteralsSpec)

/-- ITS FALSE NEIGHBOUR: 'it returns false'. Refute it at one input. -/
def numberLiteralsWrong : ChangeSpec := { name := "numberLiterals", fn := fun _ => fun
  | [d1, d2, d3, d4, d5] => { results := [.lit (.bool false)], args := [d1, d2, d3, d4, d5] }
  | _ => none }
def NumberLiteralsWrongFalsely : Prop := numberLiteralsRow.holds Try.pinned (OpenSpec.ofChange numberLiteralsWrong)

/-- 'matchguardlaw05.NumberRings': WHATEVER THE INPUT: true; the input reads as it did. -/
def numberRingsSpec : ChangeSpec := { name := "numberRings", fn := fun _ => fun
  | [d1, d2, d3, d4] => { results := [.lit (.bool true)], args := [d1, d2, d3, d4] }
  | _ => none }
def numberRingsRow : OpenClaim := { program := "ytbacclhnbecojaa", sum := "5afe69e067d96ed2a5ada99aba427d126046e0b85a52ffc16fd9f9e5526f1363", func := "matchguard/matchguardlaw05.NumberRings", spec := "numberRings", apart := false }
def NumberRingsSaid : Prop := numberRingsRow.holds Try.pinned (OpenSpec.ofChange numberRingsSpec)

/-- ITS FALSE NEIGHBOUR: 'it returns false'. Refute it at one input. -/
def numberRingsWrong : ChangeSpec := { name := "numberRings", fn := fun _ => fun
  | [d1, d2, d3, d4] => { results := [.lit (.bool false)], args := [d1, d2, d3, d4] }
  | _ => none }
def NumberRingsWrongFalsely : Prop := numberRingsRow.holds Try.pinned (OpenSpec.ofChange numberRingsWrong)

/- THE SECOND FORM. 'bulk': how many values and letters a reading holds, each counted each time it is reached (what is shared counts as often as it is met; a slice's spare places count too). A statement '..UptoSaid' is the law's where the arguments, and the package variables that the reading takes, are together of bulk at most 1048576: NARROWER than '..Said'. Prove '..Said' where nothing that the law and all that it calls make is longer than what came in: it says more and counts as full. Else prove '..UptoSaid'. A law counts once. -/
mutual
def uptoBulk {H : Type} : DataW H → Nat
  | .lit (.string bytes) => bytes.length + 1
  | .lit _ => 1
  | .nil => 1
  | .ptr d => uptoBulk d + 1
  | .slice elems spare => uptoBulkAll elems + uptoBulkAll spare + 1
  | .agg parts => uptoBulkAll parts + 1
  | .iface _ d => uptoBulk d + 1
  | .map entries => uptoBulkEntries entries + 1
  | .held _ => 1
def uptoBulkAll {H : Type} : List (DataW H) → Nat
  | [] => 0
  | d :: r => uptoBulk d + uptoBulkAll r
def uptoBulkEntries {H : Type} : List (Lit × DataW H) → Nat
  | [] => 0
  | x :: r => uptoBulkEntry x + uptoBulkEntries r
def uptoBulkEntry {H : Type} : Lit × DataW H → Nat
  | (.string bytes, d) => bytes.length + uptoBulk d + 1
  | (_, d) => uptoBulk d + 1
 end
def uptoSmall : (H : Type) → List (DataW H) → Bool := fun _ ds => decide (uptoBulkAll ds ≤ 1048576)
def OpenSpec.upto (s : _root_.Go.ChangeSpec) : _root_.Go.OpenSpec := { _root_.Go.OpenSpec.ofChange s with cond := some uptoSmall }

/-- 'matchguardlaw05.NumberSums', WHERE WHAT IT READS IS OF BULK AT MOST 1048576: true; the input reads as it did. -/
def numberSumsUptoRow : OpenClaim := { program := "ytbacclhnbecojaa", sum := "5afe69e067d96ed2a5ada99aba427d126046e0b85a52ffc16fd9f9e5526f1363", func := "matchguard/matchguardlaw05.NumberSums", spec := "numberSums", apart := false, narrowed := true }
def NumberSumsUptoSaid : Prop := numberSumsUptoRow.holds Try.pinned (OpenSpec.upto numberSumsSpec)

/-- 'matchguardlaw05.NumberOrders', WHERE WHAT IT READS IS OF BULK AT MOST 1048576: true; the input reads as it did. -/
def numberOrdersUptoRow : OpenClaim := { program := "ytbacclhnbecojaa", sum := "5afe69e067d96ed2a5ada99aba427d126046e0b85a52ffc16fd9f9e5526f1363", func := "matchguard/matchguardlaw05.NumberOrders", spec := "numberOrders", apart := false, narrowed := true }
def NumberOrdersUptoSaid : Prop := numberOrdersUptoRow.holds Try.pinned (OpenSpec.upto numberOrdersSpec)

/-- 'matchguardlaw05.NumberValues', WHERE WHAT IT READS IS OF BULK AT MOST 1048576: true; the input reads as it did. -/
def numberValuesUptoRow : OpenClaim := { program := "ytbacclhnbecojaa", sum := "5afe69e067d96ed2a5ada99aba427d126046e0b85a52ffc16fd9f9e5526f1363", func := "matchguard/matchguardlaw05.NumberValues", spec := "numberValues", apart := false, narrowed := true }
def NumberValuesUptoSaid : Prop := numberValuesUptoRow.holds Try.pinned (OpenSpec.upto numberValuesSpec)

/-- 'matchguardlaw05.NumberLiterals', WHERE WHAT IT READS IS OF BULK AT MOST 1048576: true; the input reads as it did. -/
def numberLiteralsUptoRow : OpenClaim := { program := "ytbacclhnbecojaa", sum := "5afe69e067d96ed2a5ada99aba427d126046e0b85a52ffc16fd9f9e5526f1363", func := "matchguard/matchguardlaw05.NumberLiterals", spec := "numberLiterals", apart := false, narrowed := true }
def NumberLiteralsUptoSaid : Prop := numberLiteralsUptoRow.holds Try.pinned (OpenSpec.upto numberLiteralsSpec)

/-- 'matchguardlaw05.NumberRings', WHERE WHAT IT READS IS OF BULK AT MOST 1048576: true; the input reads as it did. -/
def numberRingsUptoRow : OpenClaim := { program := "ytbacclhnbecojaa", sum := "5afe69e067d96ed2a5ada99aba427d126046e0b85a52ffc16fd9f9e5526f1363", func := "matchguard/matchguardlaw05.NumberRings", spec := "numberRings", apart := false, narrowed := true }
def NumberRingsUptoSaid : Prop := numberRingsUptoRow.holds Try.pinned (OpenSpec.upto numberRingsSpec)

end Rows
end Go.Proofs.Ytbacclhnbecojaa
