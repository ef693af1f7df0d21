/-
  No cell of these rows narrows 'for every input' (looked for: loops, veiled, ifaces, maps, wideKeys, modest, calm, conditions, laid).
  DERIVED. THE GIVEN ROWS OF THIS SEAT. 12 by the template 'for every input the law returns true; each argument reads behind the call as it read before'; 0 by the template 'total and deterministic' (their statements: YtldgjahpmlafgaaGreatTotals.lean).
  GIVEN WITH THE SEED: the statements are not yours to turn. If you find one false, say at which input.
  Laid BY PROGRAM, IN A SANDBOX (cutbox-rows.mjs): the forced cells as the released guide's own fill.sh prints them over the translation 3944fd197f3c5ecf… (all of the seat's roots in one cut). By AI agents, Wed Nov 11 2026. No macro, syntax, notation, axiom, sorry.
-/
import Derived.Test.YtldgjahpmlafgaaGreatChecked
import GoSem.Claim
import GoSem.ClaimJoined
import GoSem.ClaimMapViews
import Derived.JoinedTies
import Derived.KernelRfl
namespace Go.Proofs.YtldgjahpmlafgaaGreat
/- THE CELL 'sum', in the pinned program and in every row, IS THE sha256 OF THE DUMP (.gsa) THAT YtldgjahpmlafgaaGreatProg.lean LOADS. Nothing in Lean hashes anything: it is a label: what it is worth is what the hold of that sum in a sandbox is worth. -/
noncomputable def Tryz.pinned : Pinned := { name := "ytldgjahpmlafgaagreat", sum := "3944fd197f3c5ecf30136edc29b0239bafa039262c355d84d14e141161ecbf82", checked := Tryz.checked }
namespace Rows
def none {H : Type} : Left H := { results := [], args := [] }

/-- 'matchguardlaw14.IndexNone': WHATEVER THE INPUT: true; the input reads as it did. -/
def indexNoneSpec : ChangeSpec := { name := "indexNone", fn := fun _ => fun
  | [d1, d2, d3] => { results := [.lit (.bool true)], args := [d1, d2, d3] }
  | _ => none }
def indexNoneRow : OpenClaim := { program := "ytldgjahpmlafgaagreat", sum := "3944fd197f3c5ecf30136edc29b0239bafa039262c355d84d14e141161ecbf82", func := "matchguard/matchguardlaw14.IndexNone", spec := "indexNone", unfollowed := true, recurses := true, plainKeys := false, apart := false }
def IndexNoneSaid : Prop := indexNoneRow.holds Tryz.pinned (OpenSpec.ofChange indexNoneSpec)

/-- ITS FALSE NEIGHBOUR: 'it returns false'. Refute it at one input. -/
def indexNoneWrong : ChangeSpec := { name := "indexNone", fn := fun _ => fun
  | [d1, d2, d3] => { results := [.lit (.bool false)], args := [d1, d2, d3] }
  | _ => none }
def IndexNoneWrongFalsely : Prop := indexNoneRow.holds Tryz.pinned (OpenSpec.ofChange indexNoneWrong)

/-- 'matchguardlaw14.IndexCalls': WHATEVER THE INPUT: true; the input reads as it did. -/
def indexCallsSpec : ChangeSpec := { name := "indexCalls", fn := fun _ => fun
  | [d1, d2, d3] => { results := [.lit (.bool true)], args := [d1, d2, d3] }
  | _ => none }
def indexCallsRow : OpenClaim := { program := "ytldgjahpmlafgaagreat", sum := "3944fd197f3c5ecf30136edc29b0239bafa039262c355d84d14e141161ecbf82", func := "matchguard/matchguardlaw14.IndexCalls", spec := "indexCalls", unfollowed := true, recurses := true, plainKeys := false, apart := false }
def IndexCallsSaid : Prop := indexCallsRow.holds Tryz.pinned (OpenSpec.ofChange indexCallsSpec)

/-- ITS FALSE NEIGHBOUR: 'it returns false'. Refute it at one input. -/
def indexCallsWrong : ChangeSpec := { name := "indexCalls", fn := fun _ => fun
  | [d1, d2, d3] => { results := [.lit (.bool false)], args := [d1, d2, d3] }
  | _ => none }
def IndexCallsWrongFalsely : Prop := indexCallsRow.holds Tryz.pinned (OpenSpec.ofChange indexCallsWrong)

/-- 'matchguardlaw14.IndexLookup': WHATEVER THE INPUT: true; the input reads as it did. -/
def indexLookupSpec : ChangeSpec := { name := "indexLookup", fn := fun _ => fun
  | [d1, d2, d3, d4] => { results := [.lit (.bool true)], args := [d1, d2, d3, d4] }
  | _ => none }
def indexLookupRow : OpenClaim := { program := "ytldgjahpmlafgaagreat", sum := "3944fd197f3c5ecf30136edc29b0239bafa039262c355d84d14e141161ecbf82", func := "matchguard/matchguardlaw14.IndexLookup", spec := "indexLookup", unfollowed := true, recurses := true, plainKeys := false, apart := false }
def IndexLookupSaid : Prop := indexLookupRow.holds Tryz.pinned (OpenSpec.ofChange indexLookupSpec)

/-- ITS FALSE NEIGHBOUR: 'it returns false'. Refute it at one input. -/
def indexLookupWrong : ChangeSpec := { name := "indexLookup", fn := fun _ => fun
  | [d1, d2, d3, d4] => { results := [.lit (.bool false)], args := [d1, d2, d3, d4] }
  | _ => none }
def IndexLookupWrongFalsely : Prop := indexLookupRow.holds Tryz.pinned (OpenSpec.ofChange indexLookupWrong)

/-- 'matchguardlaw14.IndexOrder': WHATEVER THE INPUT: true; the input reads as it did. -/
def indexOrderSpec : ChangeSpec := { name := "indexOrder", fn := fun _ => fun
  | [d1, d2, d3, d4] => { results := [.lit (.bool true)], args := [d1, d2, d3, d4] }
  | _ => none }
def indexOrderRow : OpenClaim := { program := "ytldgjahpmlafgaagreat", sum := "3944fd197f3c5ecf30136edc29b0239bafa039262c355d84d14e141161ecbf82", func := "matchguard/matchguardlaw14.IndexOrder", spec := "indexOrder", unfollowed := true, recurses := true, plainKeys := false, apart := false }
def IndexOrderSaid : Prop := indexOrderRow.holds Tryz.pinned (OpenSpec.ofChange indexOrderSpec)

/-- ITS FALSE NEIGHBOUR: 'it returns false'. Refute it at one input. -/
def indexOrderWrong : ChangeSpec := { name := "indexOrder", fn := fun _ => fun
  | [d1, d2, d3, d4] => { results := [.lit (.bool false)], args := [d1, d2, d3, d4] }
  | _ => none }
def IndexOrderWrongFalsely : Prop := indexOrderRow.holds Tryz.pinned (OpenSpec.ofChange indexOrderWrong)

/-- 'matchguardlaw13.OrderedLookup': WHATEVER THE INPUT: true; the input reads as it did. -/
def orderedLookupSpec : ChangeSpec := { name := "orderedLookup", fn := fun _ => fun
  | [d1, d2, d3, d4] => { results := [.lit (.bool true)], args := [d1, d2, d3, d4] }
  | _ => none }
def orderedLookupRow : OpenClaim := { program := "ytldgjahpmlafgaagreat", sum := "3944fd197f3c5ecf30136edc29b0239bafa039262c355d84d14e141161ecbf82", func := "matchguard/matchguardlaw13.OrderedLookup", spec := "orderedLookup", inPlace := ["slices.overlaps[matchguard/api.Installed]"], unfollowed := true, recurses := true, plainKeys := false, apart := false }
def OrderedLookupSaid : Prop := orderedLookupRow.holds Tryz.pinned (OpenSpec.ofChange orderedLookupSpec)

/-- ITS FALSE NEIGHBOUR: 'it returns false'. Refute it at one input. -/
def orderedLookupWrong : ChangeSpec := { name := "orderedLookup", fn := fun _ => fun
  | [d1, d2, d3, d4] => { results := [.lit (.bool false)], args := [d1, d2, d3, d4] }
  | _ => none }
def OrderedLookupWrongFalsely : Prop := orderedLookupRow.holds Tryz.pinned (OpenSpec.ofChange orderedLookupWrong)

/-- 'matchguardlaw13.OrderedRemoves': WHATEVER THE INPUT: true; the input reads as it did. -/
def orderedRemovesSpec : ChangeSpec := { name := "orderedRemoves", fn := fun _ => fun
  | [d1, d2, d3, d4] => { results := [.lit (.bool true)], args := [d1, d2, d3, d4] }
  | _ => none }
def orderedRemovesRow : OpenClaim := { program := "ytldgjahpmlafgaagreat", sum := "3944fd197f3c5ecf30136edc29b0239bafa039262c355d84d14e141161ecbf82", func := "matchguard/matchguardlaw13.OrderedRemoves", spec := "orderedRemoves", inPlace := ["slices.overlaps[matchguard/api.Installed]"], unfollowed := true, recurses := true, plainKeys := false, apart := false }
def OrderedRemovesSaid : Prop := orderedRemovesRow.holds Tryz.pinned (OpenSpec.ofChange orderedRemovesSpec)

/-- ITS FALSE NEIGHBOUR: 'it returns false'. Refute it at one input. -/
def orderedRemovesWrong : ChangeSpec := { name := "orderedRemoves", fn := fun _ => fun
  | [d1, d2, d3, d4] => { results := [.lit (.bool false)], args := [d1, d2, d3, d4] }
  | _ => none }
def OrderedRemovesWrongFalsely : Prop := orderedRemovesRow.holds Tryz.pinned (OpenSpec.ofChange orderedRemovesWrong)

/-- 'matchguardlaw13.OrderedLocal': WHATEVER THE INPUT: true; the input reads as it did. -/
def orderedLocalSpec : ChangeSpec := { name := "orderedLocal", fn := fun _ => fun
  | [d1, d2, d3, d4] => { results := [.lit (.bool true)], args := [d1, d2, d3, d4] }
  | _ => none }
def orderedLocalRow : OpenClaim := { program := "ytldgjahpmlafgaagreat", sum := "3944fd197f3c5ecf30136edc29b0239bafa039262c355d84d14e141161ecbf82", func := "matchguard/matchguardlaw13.OrderedLocal", spec := "orderedLocal", inPlace := ["slices.overlaps[matchguard/api.Installed]"], unfollowed := true, recurses := true, plainKeys := false, apart := false }
def OrderedLocalSaid : Prop := orderedLocalRow.holds Tryz.pinned (OpenSpec.ofChange orderedLocalSpec)

/-- ITS FALSE NEIGHBOUR: 'it returns false'. Refute it at one input. -/
def orderedLocalWrong : ChangeSpec := { name := "orderedLocal", fn := fun _ => fun
  | [d1, d2, d3, d4] => { results := [.lit (.bool false)], args := [d1, d2, d3, d4] }
  | _ => none }
def OrderedLocalWrongFalsely : Prop := orderedLocalRow.holds Tryz.pinned (OpenSpec.ofChange orderedLocalWrong)

/-- 'matchguardlaw13.OrderedOwn': WHATEVER THE INPUT: true; the input reads as it did. -/
def orderedOwnSpec : ChangeSpec := { name := "orderedOwn", fn := fun _ => fun
  | [d1, d2, d3] => { results := [.lit (.bool true)], args := [d1, d2, d3] }
  | _ => none }
def orderedOwnRow : OpenClaim := { program := "ytldgjahpmlafgaagreat", sum := "3944fd197f3c5ecf30136edc29b0239bafa039262c355d84d14e141161ecbf82", func := "matchguard/matchguardlaw13.OrderedOwn", spec := "orderedOwn", inPlace := ["slices.overlaps[matchguard/api.Installed]"], unfollowed := true, recurses := true, plainKeys := false, apart := false }
def OrderedOwnSaid : Prop := orderedOwnRow.holds Tryz.pinned (OpenSpec.ofChange orderedOwnSpec)

/-- ITS FALSE NEIGHBOUR: 'it returns false'. Refute it at one input. -/
def orderedOwnWrong : ChangeSpec := { name := "orderedOwn", fn := fun _ => fun
  | [d1, d2, d3] => { results := [.lit (.bool false)], args := [d1, d2, d3] }
  | _ => none }
def OrderedOwnWrongFalsely : Prop := orderedOwnRow.holds Tryz.pinned (OpenSpec.ofChange orderedOwnWrong)

/-- 'matchguardlaw15.StoreSizes': WHATEVER THE INPUT: true; the input reads as it did. -/
def storeSizesSpec : ChangeSpec := { name := "storeSizes", fn := fun _ => fun
  | [d1, d2, d3] => { results := [.lit (.bool true)], args := [d1, d2, d3] }
  | _ => none }
def storeSizesRow : OpenClaim := { program := "ytldgjahpmlafgaagreat", sum := "3944fd197f3c5ecf30136edc29b0239bafa039262c355d84d14e141161ecbf82", func := "matchguard/matchguardlaw15.StoreSizes", spec := "storeSizes", unfollowed := true, recurses := true, plainKeys := false, apart := false }
def StoreSizesSaid : Prop := storeSizesRow.holds Tryz.pinned (OpenSpec.ofChange storeSizesSpec)

/-- ITS FALSE NEIGHBOUR: 'it returns false'. Refute it at one input. -/
def storeSizesWrong : ChangeSpec := { name := "storeSizes", fn := fun _ => fun
  | [d1, d2, d3] => { results := [.lit (.bool false)], args := [d1, d2, d3] }
  | _ => none }
def StoreSizesWrongFalsely : Prop := storeSizesRow.holds Tryz.pinned (OpenSpec.ofChange storeSizesWrong)

/-- 'matchguardlaw15.StoreUndo': WHATEVER THE INPUT: true; the input reads as it did. -/
def storeUndoSpec : ChangeSpec := { name := "storeUndo", fn := fun _ => fun
  | [d1, d2, d3] => { results := [.lit (.bool true)], args := [d1, d2, d3] }
  | _ => none }
def storeUndoRow : OpenClaim := { program := "ytldgjahpmlafgaagreat", sum := "3944fd197f3c5ecf30136edc29b0239bafa039262c355d84d14e141161ecbf82", func := "matchguard/matchguardlaw15.StoreUndo", spec := "storeUndo", unfollowed := true, recurses := true, plainKeys := false, apart := false }
def StoreUndoSaid : Prop := storeUndoRow.holds Tryz.pinned (OpenSpec.ofChange storeUndoSpec)

/-- ITS FALSE NEIGHBOUR: 'it returns false'. Refute it at one input. -/
def storeUndoWrong : ChangeSpec := { name := "storeUndo", fn := fun _ => fun
  | [d1, d2, d3] => { results := [.lit (.bool false)], args := [d1, d2, d3] }
  | _ => none }
def StoreUndoWrongFalsely : Prop := storeUndoRow.holds Tryz.pinned (OpenSpec.ofChange storeUndoWrong)

/-- 'matchguardlaw15.StoreNumbers': WHATEVER THE INPUT: true; the input reads as it did. -/
def storeNumbersSpec : ChangeSpec := { name := "storeNumbers", fn := fun _ => fun
  | [d1, d2] => { results := [.lit (.bool true)], args := [d1, d2] }
  | _ => none }
def storeNumbersRow : OpenClaim := { program := "ytldgjahpmlafgaagreat", sum := "3944fd197f3c5ecf30136edc29b0239bafa039262c355d84d14e141161ecbf82", func := "matchguard/matchguardlaw15.StoreNumbers", spec := "storeNumbers", unfollowed := true, recurses := true, plainKeys := false, apart := false }
def StoreNumbersSaid : Prop := storeNumbersRow.holds Tryz.pinned (OpenSpec.ofChange storeNumbersSpec)

/-- ITS FALSE NEIGHBOUR: 'it returns false'. Refute it at one input. -/
def storeNumbersWrong : ChangeSpec := { name := "storeNumbers", fn := fun _ => fun
  | [d1, d2] => { results := [.lit (.bool false)], args := [d1, d2] }
  | _ => none }
def StoreNumbersWrongFalsely : Prop := storeNumbersRow.holds Tryz.pinned (OpenSpec.ofChange storeNumbersWrong)

/-- 'matchguardlaw15.StoreTables': WHATEVER THE INPUT: true; the input reads as it did. -/
def storeTablesSpec : ChangeSpec := { name := "storeTables", fn := fun _ => fun
  | [d1, d2] => { results := [.lit (.bool true)], args := [d1, d2] }
  | _ => none }
def storeTablesRow : OpenClaim := { program := "ytldgjahpmlafgaagreat", sum := "3944fd197f3c5ecf30136edc29b0239bafa039262c355d84d14e141161ecbf82", func := "matchguard/matchguardlaw15.StoreTables", spec := "storeTables", unfollowed := true, recurses := true, plainKeys := false, apart := false }
def StoreTablesSaid : Prop := storeTablesRow.holds Tryz.pinned (OpenSpec.ofChange storeTablesSpec)

/-- ITS FALSE NEIGHBOUR: 'it returns false'. Refute it at one input. -/
def storeTablesWrong : ChangeSpec := { name := "storeTables", fn := fun _ => fun
  | [d1, d2] => { results := [.lit (.bool false)], args := [d1, d2] }
  | _ => none }
def StoreTablesWrongFalsely : Prop := storeTablesRow.holds Tryz.pinned (OpenSpec.ofChange storeTablesWrong)

/- THE SECOND FORM. 'bulk': how many values and letters a reading holds, each counted each time it is reached (what is shared counts as often as it is met; a slice's spare places count too). A statement '..UptoSaid' is the law's where the arguments, and the package variables that the reading takes, are together of bulk at most 1048576: NARROWER than '..Said'. Prove '..Said' where nothing that the law and all that it calls make is longer than what came in: it says more and counts as full. Else prove '..UptoSaid'. A law counts once. -/
mutual
def uptoBulk {H : Type} : DataW H → Nat
  | .lit (.string bytes) => bytes.length + 1
  | .lit _ => 1
  | .nil => 1
  | .ptr d => uptoBulk d + 1
  | .slice elems spare => uptoBulkAll elems + uptoBulkAll spare + 1
  | .agg parts => uptoBulkAll parts + 1
  | .iface _ d => uptoBulk d + 1
  | .map entries => uptoBulkEntries entries + 1
  | .held _ => 1
def uptoBulkAll {H : Type} : List (DataW H) → Nat
  | [] => 0
  | d :: r => uptoBulk d + uptoBulkAll r
def uptoBulkEntries {H : Type} : List (Lit × DataW H) → Nat
  | [] => 0
  | x :: r => uptoBulkEntry x + uptoBulkEntries r
def uptoBulkEntry {H : Type} : Lit × DataW H → Nat
  | (.string bytes, d) => bytes.length + uptoBulk d + 1
  | (_, d) => uptoBulk d + 1
 end
def uptoSmall : (H : Type) → List (DataW H) → Bool := fun _ ds => decide (uptoBulkAll ds ≤ 1048576)
def OpenSpec.upto (s : _root_.Go.ChangeSpec) : _root_.Go.OpenSpec := { _root_.Go.OpenSpec.ofChange s with cond := some uptoSmall }

/-- 'matchguardlaw14.IndexNone', WHERE WHAT IT READS IS OF BULK AT MOST 1048576: true; the input reads as it did. -/
def indexNoneUptoRow : OpenClaim := { program := "ytldgjahpmlafgaagreat", sum := "3944fd197f3c5ecf30136edc29b0239bafa039262c355d84d14e141161ecbf82", func := "matchguard/matchguardlaw14.IndexNone", spec := "indexNone", unfollowed := true, recurses := true, plainKeys := false, apart := false, narrowed := true }
def IndexNoneUptoSaid : Prop := indexNoneUptoRow.holds Tryz.pinned (OpenSpec.upto indexNoneSpec)

/-- 'matchguardlaw14.IndexCalls', WHERE WHAT IT READS IS OF BULK AT MOST 1048576: true; the input reads as it did. -/
def indexCallsUptoRow : OpenClaim := { program := "ytldgjahpmlafgaagreat", sum := "3944fd197f3c5ecf30136edc29b0239bafa039262c355d84d14e141161ecbf82", func := "matchguard/matchguardlaw14.IndexCalls", spec := "indexCalls", unfollowed := true, recurses := true, plainKeys := false, apart := false, narrowed := true }
def IndexCallsUptoSaid : Prop := indexCallsUptoRow.holds Tryz.pinned (OpenSpec.upto indexCallsSpec)

/-- 'matchguardlaw14.IndexLookup', WHERE WHAT IT READS IS OF BULK AT MOST 1048576: true; the input reads as it did. -/
def indexLookupUptoRow : OpenClaim := { program := "ytldgjahpmlafgaagreat", sum := "3944fd197f3c5ecf30136edc29b0239bafa039262c355d84d14e141161ecbf82", func := "matchguard/matchguardlaw14.IndexLookup", spec := "indexLookup", unfollowed := true, recurses := true, plainKeys := false, apart := false, narrowed := true }
def IndexLookupUptoSaid : Prop := indexLookupUptoRow.holds Tryz.pinned (OpenSpec.upto indexLookupSpec)

/-- 'matchguardlaw14.IndexOrder', WHERE WHAT IT READS IS OF BULK AT MOST 1048576: true; the input reads as it did. -/
def indexOrderUptoRow : OpenClaim := { program := "ytldgjahpmlafgaagreat", sum := "3944fd197f3c5ecf30136edc29b0239bafa039262c355d84d14e141161ecbf82", func := "matchguard/matchguardlaw14.IndexOrder", spec := "indexOrder", unfollowed := true, recurses := true, plainKeys := false, apart := false, narrowed := true }
def IndexOrderUptoSaid : Prop := indexOrderUptoRow.holds Tryz.pinned (OpenSpec.upto indexOrderSpec)

/-- 'matchguardlaw13.OrderedLookup', WHERE WHAT IT READS IS OF BULK AT MOST 1048576: true; the input reads as it did. -/
def orderedLookupUptoRow : OpenClaim := { program := "ytldgjahpmlafgaagreat", sum := "3944fd197f3c5ecf30136edc29b0239bafa039262c355d84d14e141161ecbf82", func := "matchguard/matchguardlaw13.OrderedLookup", spec := "orderedLookup", inPlace := ["slices.overlaps[matchguard/api.Installed]"], unfollowed := true, recurses := true, plainKeys := false, apart := false, narrowed := true }
def OrderedLookupUptoSaid : Prop := orderedLookupUptoRow.holds Tryz.pinned (OpenSpec.upto orderedLookupSpec)

/-- 'matchguardlaw13.OrderedRemoves', WHERE WHAT IT READS IS OF BULK AT MOST 1048576: true; the input reads as it did. -/
def orderedRemovesUptoRow : OpenClaim := { program := "ytldgjahpmlafgaagreat", sum := "3944fd197f3c5ecf30136edc29b0239bafa039262c355d84d14e141161ecbf82", func := "matchguard/matchguardlaw13.OrderedRemoves", spec := "orderedRemoves", inPlace := ["slices.overlaps[matchguard/api.Installed]"], unfollowed := true, recurses := true, plainKeys := false, apart := false, narrowed := true }
def OrderedRemovesUptoSaid : Prop := orderedRemovesUptoRow.holds Tryz.pinned (OpenSpec.upto orderedRemovesSpec)

/-- 'matchguardlaw13.OrderedLocal', WHERE WHAT IT READS IS OF BULK AT MOST 1048576: true; the input reads as it did. -/
def orderedLocalUptoRow : OpenClaim := { program := "ytldgjahpmlafgaagreat", sum := "3944fd197f3c5ecf30136edc29b0239bafa039262c355d84d14e141161ecbf82", func := "matchguard/matchguardlaw13.OrderedLocal", spec := "orderedLocal", inPlace := ["slices.overlaps[matchguard/api.Installed]"], unfollowed := true, recurses := true, plainKeys := false, apart := false, narrowed := true }
def OrderedLocalUptoSaid : Prop := orderedLocalUptoRow.holds Tryz.pinned (OpenSpec.upto orderedLocalSpec)

/-- 'matchguardlaw13.OrderedOwn', WHERE WHAT IT READS IS OF BULK AT MOST 1048576: true; the input reads as it did. -/
def orderedOwnUptoRow : OpenClaim := { program := "ytldgjahpmlafgaagreat", sum := "3944fd197f3c5ecf30136edc29b0239bafa039262c355d84d14e141161ecbf82", func := "matchguard/matchguardlaw13.OrderedOwn", spec := "orderedOwn", inPlace := ["slices.overlaps[matchguard/api.Installed]"], unfollowed := true, recurses := true, plainKeys := false, apart := false, narrowed := true }
def OrderedOwnUptoSaid : Prop := orderedOwnUptoRow.holds Tryz.pinned (OpenSpec.upto orderedOwnSpec)

/-- 'matchguardlaw15.StoreSizes', WHERE WHAT IT READS IS OF BULK AT MOST 1048576: true; the input reads as it did. -/
def storeSizesUptoRow : OpenClaim := { program := "ytldgjahpmlafgaagreat", sum := "3944fd197f3c5ecf30136edc29b0239bafa039262c355d84d14e141161ecbf82", func := "matchguard/matchguardlaw15.StoreSizes", spec := "storeSizes", unfollowed := true, recurses := true, plainKeys := false, apart := false, narrowed := true }
def StoreSizesUptoSaid : Prop := storeSizesUptoRow.holds Tryz.pinned (OpenSpec.upto storeSizesSpec)

/-- 'matchguardlaw15.StoreUndo', WHERE WHAT IT READS IS OF BULK AT MOST 1048576: true; the input reads as it did. -/
def storeUndoUptoRow : OpenClaim := { program := "ytldgjahpmlafgaagreat", sum := "3944fd197f3c5ecf30136edc29b0239bafa039262c355d84d14e141161ecbf82", func := "matchguard/matchguardlaw15.StoreUndo", spec := "storeUndo", unfollowed := true, recurses := true, plainKeys := false, apart := false, narrowed := true }
def StoreUndoUptoSaid : Prop := storeUndoUptoRow.holds Tryz.pinned (OpenSpec.upto storeUndoSpec)

/-- 'matchguardlaw15.StoreNumbers', WHERE WHAT IT READS IS OF BULK AT MOST 1048576: true; the input reads as it did. -/
def storeNumbersUptoRow : OpenClaim := { program := "ytldgjahpmlafgaagreat", sum := "3944fd197f3c5ecf30136edc29b0239bafa039262c355d84d14e141161ecbf82", func := "matchguard/matchguardlaw15.StoreNumbers", spec := "storeNumbers", unfollowed := true, recurses := true, plainKeys := false, apart := false, narrowed := true }
def StoreNumbersUptoSaid : Prop := storeNumbersUptoRow.holds Tryz.pinned (OpenSpec.upto storeNumbersSpec)

/-- 'matchguardlaw15.StoreTables', WHERE WHAT IT READS IS OF BULK AT MOST 1048576: true; the input reads as it did. -/
def storeTablesUptoRow : OpenClaim := { program := "ytldgjahpmlafgaagreat", sum := "3944fd197f3c5ecf30136edc29b0239bafa039262c355d84d14e141161ecbf82", func := "matchguard/matchguardlaw15.StoreTables", spec := "storeTables", unfollowed := true, recurses := true, plainKeys := false, apart := false, narrowed := true }
def StoreTablesUptoSaid : Prop := storeTablesUptoRow.holds Tryz.pinned (OpenSpec.upto storeTablesSpec)

end Rows
end Go.Proofs.YtldgjahpmlafgaaGreat
