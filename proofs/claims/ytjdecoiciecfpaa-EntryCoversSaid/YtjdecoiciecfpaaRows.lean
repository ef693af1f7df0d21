/-
  No cell of these rows narrows 'for every input' (looked for: loops, veiled, ifaces, maps, wideKeys, modest, calm, conditions, laid).
  DERIVED. THE GIVEN ROWS OF THIS SEAT. 5 by the template 'for every input the law returns true; each argument reads behind the call as it read before'; 0 by the template 'total and deterministic' (their statements: YtjdecoiciecfpaaTotals.lean).
  GIVEN WITH THE SEED: the statements are not yours to turn. If you find one false, say at which input.
  Laid BY PROGRAM, IN A SANDBOX (cutbox-rows.mjs): the forced cells as the released guide's own fill.sh prints them over the translation e5e80f53e61ded4a… (all of the seat's roots in one cut). By AI agents, Wed Nov 11 2026. No macro, syntax, notation, axiom, sorry.
-/
import Derived.Test.YtjdecoiciecfpaaChecked
import GoSem.Claim
import GoSem.ClaimJoined
import GoSem.ClaimMapViews
import Derived.JoinedTies
import Derived.KernelRfl
namespace Go.Proofs.Ytjdecoiciecfpaa
/- THE CELL 'sum', in the pinned program and in every row, IS THE sha256 OF THE DUMP (.gsa) THAT YtjdecoiciecfpaaProg.lean LOADS. Nothing in Lean hashes anything: it is a label: what it is worth is what the hold of that sum in a sandbox is worth. -/
noncomputable def Try.pinned : Pinned := { name := "ytjdecoiciecfpaa", sum := "e5e80f53e61ded4adcebf4efa508d638e01b60ecf83a4e4d5db516a948f891f3", checked := Try.checked }
namespace Rows
def none {H : Type} : Left H := { results := [], args := [] }

/-- 'matchguardlaw10.EntryCovers': WHATEVER THE INPUT: true; the input reads as it did. -/
def entryCoversSpec : ChangeSpec := { name := "entryCovers", fn := fun _ => fun
  | [d1, d2, d3, d4, d5, d6, d7, d8] => { results := [.lit (.bool true)], args := [d1, d2, d3, d4, d5, d6, d7, d8] }
  | _ => none }
def entryCoversRow : OpenClaim := { program := "ytjdecoiciecfpaa", sum := "e5e80f53e61ded4adcebf4efa508d638e01b60ecf83a4e4d5db516a948f891f3", func := "matchguard/matchguardlaw10.EntryCovers", spec := "entryCovers", unfollowed := true, recurses := true, plainKeys := false, apart := false }
def EntryCoversSaid : Prop := entryCoversRow.holds Try.pinned (OpenSpec.ofChange entryCoversSpec)

/-- ITS FALSE NEIGHBOUR: 'it returns false'. Refute it at one input. -/
def entryCoversWrong : ChangeSpec := { name := "entryCovers", fn := fun _ => fun
  | [d1, d2, d3, d4, d5, d6, d7, d8] => { results := [.lit (.bool false)], args := [d1, d2, d3, d4, d5, d6, d7, d8] }
  | _ => none }
def EntryCoversWrongFalsely : Prop := entryCoversRow.holds Try.pinned (OpenSpec.ofChange entryCoversWrong)

/-- 'matchguardlaw10.EntryOrders': WHATEVER THE INPUT: true; the input reads as it did. -/
def entryOrdersSpec : ChangeSpec := { name := "entryOrders", fn := fun _ => fun
  | [d1, d2, d3, d4, d5, d6] => { results := [.lit (.bool true)], args := [d1, d2, d3, d4, d5, d6] }
  | _ => none }
def entryOrdersRow : OpenClaim := { program := "ytjdecoiciecfpaa", sum := "e5e80f53e61ded4adcebf4efa508d638e01b60ecf83a4e4d5db516a948f891f3", func := "matchguard/matchguardlaw10.EntryOrders", spec := "entryOrders", unfollowed := true, recurses := true, plainKeys := false, apart := false }
def EntryOrdersSaid : Prop := entryOrdersRow.holds Try.pinned (OpenSpec.ofChange entryOrdersSpec)

/-- ITS FALSE NEIGHBOUR: 'it returns false'. Refute it at one input. -/
def entryOrdersWrong : ChangeSpec := { name := "entryOrders", fn := fun _ => fun
  | [d1, d2, d3, d4, d5, d6] => { results := [.lit (.bool false)], args := [d1, d2, d3, d4, d5, d6] }
  | _ => none }
def EntryOrdersWrongFalsely : Prop := entryOrdersRow.holds Try.pinned (OpenSpec.ofChange entryOrdersWrong)

/-- 'matchguardlaw11.ExactCalls': WHATEVER THE INPUT: true; the input reads as it did. -/
def exactCallsSpec : ChangeSpec := { name := "exactCalls", fn := fun _ => fun
  | [d] => { results := [.lit (.bool true)], args := [d] }
  | _ => none }
def exactCallsRow : OpenClaim := { program := "ytjdecoiciecfpaa", sum := "e5e80f53e61ded4adcebf4efa508d638e01b60ecf83a4e4d5db516a948f891f3", func := "matchguard/matchguardlaw11.ExactCalls", spec := "exactCalls", unfollowed := true, recurses := true, plainKeys := false, apart := false }
def ExactCallsSaid : Prop := exactCallsRow.holds Try.pinned (OpenSpec.ofChange exactCallsSpec)

/-- ITS FALSE NEIGHBOUR: 'it returns false'. Refute it at one input. -/
def exactCallsWrong : ChangeSpec := { name := "exactCalls", fn := fun _ => fun
  | [d] => { results := [.lit (.bool false)], args := [d] }
  | _ => none }
def ExactCallsWrongFalsely : Prop := exactCallsRow.holds Try.pinned (OpenSpec.ofChange exactCallsWrong)

/-- 'matchguardlaw11.ExactOrder': WHATEVER THE INPUT: true; the input reads as it did. -/
def exactOrderSpec : ChangeSpec := { name := "exactOrder", fn := fun _ => fun
  | [d1, d2] => { results := [.lit (.bool true)], args := [d1, d2] }
  | _ => none }
def exactOrderRow : OpenClaim := { program := "ytjdecoiciecfpaa", sum := "e5e80f53e61ded4adcebf4efa508d638e01b60ecf83a4e4d5db516a948f891f3", func := "matchguard/matchguardlaw11.ExactOrder", spec := "exactOrder", unfollowed := true, recurses := true, plainKeys := false, apart := false }
def ExactOrderSaid : Prop := exactOrderRow.holds Try.pinned (OpenSpec.ofChange exactOrderSpec)

/-- ITS FALSE NEIGHBOUR: 'it returns false'. Refute it at one input. -/
def exactOrderWrong : ChangeSpec := { name := "exactOrder", fn := fun _ => fun
  | [d1, d2] => { results := [.lit (.bool false)], args := [d1, d2] }
  | _ => none }
def ExactOrderWrongFalsely : Prop := exactOrderRow.holds Try.pinned (OpenSpec.ofChange exactOrderWrong)

/-- 'matchguardlaw11.ExactNone': WHATEVER THE INPUT: true; the input reads as it did. -/
def exactNoneSpec : ChangeSpec := { name := "exactNone", fn := fun _ => fun
  | [d1, d2] => { results := [.lit (.bool true)], args := [d1, d2] }
  | _ => none }
def exactNoneRow : OpenClaim := { program := "ytjdecoiciecfpaa", sum := "e5e80f53e61ded4adcebf4efa508d638e01b60ecf83a4e4d5db516a948f891f3", func := "matchguard/matchguardlaw11.ExactNone", spec := "exactNone", unfollowed := true, recurses := true, plainKeys := false, apart := false }
def ExactNoneSaid : Prop := exactNoneRow.holds Try.pinned (OpenSpec.ofChange exactNoneSpec)

/-- ITS FALSE NEIGHBOUR: 'it returns false'. Refute it at one input. -/
def exactNoneWrong : ChangeSpec := { name := "exactNone", fn := fun _ => fun
  | [d1, d2] => { results := [.lit (.bool false)], args := [d1, d2] }
  | _ => none }
def ExactNoneWrongFalsely : Prop := exactNoneRow.holds Try.pinned (OpenSpec.ofChange exactNoneWrong)

/- THE SECOND FORM. 'bulk': how many values and letters a reading holds, each counted each time it is reached (what is shared counts as often as it is met; a slice's spare places count too). A statement '..UptoSaid' is the law's where the arguments, and the package variables that the reading takes, are together of bulk at most 1048576: NARROWER than '..Said'. Prove '..Said' where nothing that the law and all that it calls make is longer than what came in: it says more and counts as full. Else prove '..UptoSaid'. A law counts once. -/
mutual
def uptoBulk {H : Type} : DataW H → Nat
  | .lit (.string bytes) => bytes.length + 1
  | .lit _ => 1
  | .nil => 1
  | .ptr d => uptoBulk d + 1
  | .slice elems spare => uptoBulkAll elems + uptoBulkAll spare + 1
  | .agg parts => uptoBulkAll parts + 1
  | .iface _ d => uptoBulk d + 1
  | .map entries => uptoBulkEntries entries + 1
  | .held _ => 1
def uptoBulkAll {H : Type} : List (DataW H) → Nat
  | [] => 0
  | d :: r => uptoBulk d + uptoBulkAll r
def uptoBulkEntries {H : Type} : List (Lit × DataW H) → Nat
  | [] => 0
  | x :: r => uptoBulkEntry x + uptoBulkEntries r
def uptoBulkEntry {H : Type} : Lit × DataW H → Nat
  | (.string bytes, d) => bytes.length + uptoBulk d + 1
  | (_, d) => uptoBulk d + 1
 end
def uptoSmall : (H : Type) → List (DataW H) → Bool := fun _ ds => decide (uptoBulkAll ds ≤ 1048576)
def OpenSpec.upto (s : _root_.Go.ChangeSpec) : _root_.Go.OpenSpec := { _root_.Go.OpenSpec.ofChange s with cond := some uptoSmall }

/-- 'matchguardlaw10.EntryCovers', WHERE WHAT IT READS IS OF BULK AT MOST 1048576: true; the input reads as it did. -/
def entryCoversUptoRow : OpenClaim := { program := "ytjdecoiciecfpaa", sum := "e5e80f53e61ded4adcebf4efa508d638e01b60ecf83a4e4d5db516a948f891f3", func := "matchguard/matchguardlaw10.EntryCovers", spec := "entryCovers", unfollowed := true, recurses := true, plainKeys := false, apart := false, narrowed := true }
def EntryCoversUptoSaid : Prop := entryCoversUptoRow.holds Try.pinned (OpenSpec.upto entryCoversSpec)

/-- 'matchguardlaw10.EntryOrders', WHERE WHAT IT READS IS OF BULK AT MOST 1048576: true; the input reads as it did. -/
def entryOrdersUptoRow : OpenClaim := { program := "ytjdecoiciecfpaa", sum := "e5e80f53e61ded4adcebf4efa508d638e01b60ecf83a4e4d5db516a948f891f3", func := "matchguard/matchguardlaw10.EntryOrders", spec := "entryOrders", unfollowed := true, recurses := true, plainKeys := false, apart := false, narrowed := true }
def EntryOrdersUptoSaid : Prop := entryOrdersUptoRow.holds Try.pinned (OpenSpec.upto entryOrdersSpec)

/-- 'matchguardlaw11.ExactCalls', WHERE WHAT IT READS IS OF BULK AT MOST 1048576: true; the input reads as it did. -/
def exactCallsUptoRow : OpenClaim := { program := "ytjdecoiciecfpaa", sum := "e5e80f53e61ded4adcebf4efa508d638e01b60ecf83a4e4d5db516a948f891f3", func := "matchguard/matchguardlaw11.ExactCalls", spec := "exactCalls", unfollowed := true, recurses := true, plainKeys := false, apart := false, narrowed := true }
def ExactCallsUptoSaid : Prop := exactCallsUptoRow.holds Try.pinned (OpenSpec.upto exactCallsSpec)

/-- 'matchguardlaw11.ExactOrder', WHERE WHAT IT READS IS OF BULK AT MOST 1048576: true; the input reads as it did. -/
def exactOrderUptoRow : OpenClaim := { program := "ytjdecoiciecfpaa", sum := "e5e80f53e61ded4adcebf4efa508d638e01b60ecf83a4e4d5db516a948f891f3", func := "matchguard/matchguardlaw11.ExactOrder", spec := "exactOrder", unfollowed := true, recurses := true, plainKeys := false, apart := false, narrowed := true }
def ExactOrderUptoSaid : Prop := exactOrderUptoRow.holds Try.pinned (OpenSpec.upto exactOrderSpec)

/-- 'matchguardlaw11.ExactNone', WHERE WHAT IT READS IS OF BULK AT MOST 1048576: true; the input reads as it did. -/
def exactNoneUptoRow : OpenClaim := { program := "ytjdecoiciecfpaa", sum := "e5e80f53e61ded4adcebf4efa508d638e01b60ecf83a4e4d5db516a948f891f3", func := "matchguard/matchguardlaw11.ExactNone", spec := "exactNone", unfollowed := true, recurses := true, plainKeys := false, apart := false, narrowed := true }
def ExactNoneUptoSaid : Prop := exactNoneUptoRow.holds Try.pinned (OpenSpec.upto exactNoneSpec)

end Rows
end Go.Proofs.Ytjdecoiciecfpaa
