/-
  NARROWER THAN 'FOR EVERY INPUT', by the rows' own cells (each row's printed sentence says how): SyntaxBack: laid · TypesChecks: laid · TypesCompiles: laid · TypesAll: laid.
  DERIVED. THE GIVEN ROWS OF THIS SEAT. 4 by the template 'for every input the law returns true; each argument reads behind the call as it read before'; 0 by the template 'total and deterministic' (their statements: YtmdifoclojogpaaGreatDoorTotals.lean).
  GIVEN WITH THE SEED: the statements are not yours to turn. If you find one false, say at which input.
  Laid BY PROGRAM, IN A SANDBOX (cutbox-rows.mjs): the forced cells as the released guide's own fill.sh prints them over the translation a710512b8880a112… (all of the seat's roots in one cut). By AI agents, Wed Nov 11 2026. No macro, syntax, notation, axiom, sorry.
-/
import Derived.Test.YtmdifoclojogpaaGreatDoorChecked
import GoSem.Claim
import GoSem.ClaimJoined
import GoSem.ClaimMapViews
import Derived.JoinedTies
import Derived.KernelRfl
namespace Go.Proofs.YtmdifoclojogpaaGreatDoor
/- THE CELL 'sum', in the pinned program and in every row, IS THE sha256 OF THE DUMP (.gsa) THAT YtmdifoclojogpaaGreatDoorProg.lean LOADS. Nothing in Lean hashes anything: it is a label: what it is worth is what the hold of that sum in a sandbox is worth. -/
noncomputable def Tryz.pinned : Pinned := { name := "ytmdifoclojogpaagreatdoor", sum := "a710512b8880a112589d2273d343399d2229e5a908546ac90585c5311b1d8b52", checked := Tryz.checked }
namespace Rows
def none {H : Type} : Left H := { results := [], args := [] }

/- WHAT THE LISTED PACKAGE-LEVEL VARIABLES READ AS WHEN THE CALL BEGINS. Each datum BY PROGRAM (the guide's laid-datum.mjs) off the statement by which the dump's own 'gosem.cut.vars' lays the variable. In a bare row this is a premise. The card (YtmdifoclojogpaaGreatDoorCards.lean) ties it to the program's text. -/
def laid_matchguard_lexer_symbols {H : Type} : DataW H := .agg [.lit (.string [38, 38]), .lit (.string [124, 124]), .lit (.string [45, 62]), .lit (.string [61, 61]), .lit (.string [33, 61]), .lit (.string [60, 61]), .lit (.string [62, 61]), .lit (.string [58, 58]), .lit (.string [40]), .lit (.string [41]), .lit (.string [33]), .lit (.string [60]), .lit (.string [62]), .lit (.string [43]), .lit (.string [45])]
def laid_matchguard_syntax_symbols {H : Type} : DataW H := .agg [.lit (.string []), .lit (.string []), .lit (.string []), .lit (.string []), .lit (.string [45]), .lit (.string [33]), .lit (.string [43]), .lit (.string [45]), .lit (.string [61, 61]), .lit (.string [33, 61]), .lit (.string [60]), .lit (.string [60, 61]), .lit (.string [62]), .lit (.string [62, 61]), .lit (.string [38, 38]), .lit (.string [124, 124]), .lit (.string [45, 62])]
def laid_matchguard_types_operators {H : Type} : DataW H := .agg [.agg [.lit (.int .i64 0), .lit (.int .i64 0), .lit (.int .i64 0)], .agg [.lit (.int .i64 0), .lit (.int .i64 0), .lit (.int .i64 1)], .agg [.lit (.int .i64 0), .lit (.int .i64 0), .lit (.int .i64 2)], .agg [.lit (.int .i64 0), .lit (.int .i64 0), .lit (.int .i64 1)], .agg [.lit (.int .i64 1), .lit (.int .i64 1), .lit (.int .i64 1)], .agg [.lit (.int .i64 1), .lit (.int .i64 2), .lit (.int .i64 2)], .agg [.lit (.int .i64 2), .lit (.int .i64 1), .lit (.int .i64 1)], .agg [.lit (.int .i64 2), .lit (.int .i64 1), .lit (.int .i64 1)], .agg [.lit (.int .i64 2), .lit (.int .i64 3), .lit (.int .i64 2)], .agg [.lit (.int .i64 2), .lit (.int .i64 3), .lit (.int .i64 2)], .agg [.lit (.int .i64 2), .lit (.int .i64 1), .lit (.int .i64 2)], .agg [.lit (.int .i64 2), .lit (.int .i64 1), .lit (.int .i64 2)], .agg [.lit (.int .i64 2), .lit (.int .i64 1), .lit (.int .i64 2)], .agg [.lit (.int .i64 2), .lit (.int .i64 1), .lit (.int .i64 2)], .agg [.lit (.int .i64 2), .lit (.int .i64 2), .lit (.int .i64 2)], .agg [.lit (.int .i64 2), .lit (.int .i64 2), .lit (.int .i64 2)], .agg [.lit (.int .i64 2), .lit (.int .i64 2), .lit (.int .i64 2)]]

/-- 'matchguardlaw07.SyntaxBack': WHATEVER THE INPUT: true; the input reads as it did. -/
def syntaxBackSpec : ChangeSpec := { name := "syntaxBack", fn := fun _ => fun
  | [d] => { results := [.lit (.bool true)], args := [d] }
  | _ => none }
def syntaxBackRow : OpenClaim := { program := "ytmdifoclojogpaagreatdoor", sum := "a710512b8880a112589d2273d343399d2229e5a908546ac90585c5311b1d8b52", func := "matchguard/matchguardlaw07.SyntaxBack", spec := "syntaxBack", inPlace := ["internal/abi.NoEscape"], unfollowed := true, recurses := true, named := ["matchguard/lexer.symbols", "matchguard/syntax.symbols"], plainKeys := false, apart := false, laid := [("matchguard/lexer.symbols", laid_matchguard_lexer_symbols), ("matchguard/syntax.symbols", laid_matchguard_syntax_symbols)] }
def SyntaxBackSaid : Prop := syntaxBackRow.holds Tryz.pinned (OpenSpec.ofChange syntaxBackSpec)

/-- ITS FALSE NEIGHBOUR: 'it returns false'. Refute it at one input. -/
def syntaxBackWrong : ChangeSpec := { name := "syntaxBack", fn := fun _ => fun
  | [d] => { results := [.lit (.bool false)], args := [d] }
  | _ => none }
def SyntaxBackWrongFalsely : Prop := syntaxBackRow.holds Tryz.pinned (OpenSpec.ofChange syntaxBackWrong)

/-- 'matchguardlaw08.TypesChecks': WHATEVER THE INPUT: true; the input reads as it did. -/
def typesChecksSpec : ChangeSpec := { name := "typesChecks", fn := fun _ => fun
  | [d1, d2, d3] => { results := [.lit (.bool true)], args := [d1, d2, d3] }
  | _ => none }
def typesChecksRow : OpenClaim := { program := "ytmdifoclojogpaagreatdoor", sum := "a710512b8880a112589d2273d343399d2229e5a908546ac90585c5311b1d8b52", func := "matchguard/matchguardlaw08.TypesChecks", spec := "typesChecks", unfollowed := true, recurses := true, named := ["matchguard/lexer.symbols", "matchguard/syntax.symbols", "matchguard/types.operators"], plainKeys := false, apart := false, laid := [("matchguard/lexer.symbols", laid_matchguard_lexer_symbols), ("matchguard/syntax.symbols", laid_matchguard_syntax_symbols), ("matchguard/types.operators", laid_matchguard_types_operators)] }
def TypesChecksSaid : Prop := typesChecksRow.holds Tryz.pinned (OpenSpec.ofChange typesChecksSpec)

/-- ITS FALSE NEIGHBOUR: 'it returns false'. Refute it at one input. -/
def typesChecksWrong : ChangeSpec := { name := "typesChecks", fn := fun _ => fun
  | [d1, d2, d3] => { results := [.lit (.bool false)], args := [d1, d2, d3] }
  | _ => none }
def TypesChecksWrongFalsely : Prop := typesChecksRow.holds Tryz.pinned (OpenSpec.ofChange typesChecksWrong)

/-- 'matchguardlaw08.TypesCompiles': WHATEVER THE INPUT: true; the input reads as it did. -/
def typesCompilesSpec : ChangeSpec := { name := "typesCompiles", fn := fun _ => fun
  | [d1, d2, d3, d4] => { results := [.lit (.bool true)], args := [d1, d2, d3, d4] }
  | _ => none }
def typesCompilesRow : OpenClaim := { program := "ytmdifoclojogpaagreatdoor", sum := "a710512b8880a112589d2273d343399d2229e5a908546ac90585c5311b1d8b52", func := "matchguard/matchguardlaw08.TypesCompiles", spec := "typesCompiles", unfollowed := true, recurses := true, named := ["matchguard/lexer.symbols", "matchguard/syntax.symbols", "matchguard/types.operators"], plainKeys := false, apart := false, laid := [("matchguard/lexer.symbols", laid_matchguard_lexer_symbols), ("matchguard/syntax.symbols", laid_matchguard_syntax_symbols), ("matchguard/types.operators", laid_matchguard_types_operators)] }
def TypesCompilesSaid : Prop := typesCompilesRow.holds Tryz.pinned (OpenSpec.ofChange typesCompilesSpec)

/-- ITS FALSE NEIGHBOUR: 'it returns false'. Refute it at one input. -/
def typesCompilesWrong : ChangeSpec := { name := "typesCompiles", fn := fun _ => fun
  | [d1, d2, d3, d4] => { results := [.lit (.bool false)], args := [d1, d2, d3, d4] }
  | _ => none }
def TypesCompilesWrongFalsely : Prop := typesCompilesRow.holds Tryz.pinned (OpenSpec.ofChange typesCompilesWrong)

/-- 'matchguardlaw08.TypesAll': WHATEVER THE INPUT: true; the input reads as it did. -/
def typesAllSpec : ChangeSpec := { name := "typesAll", fn := fun _ => fun
  | [d1, d2, d3, d4, d5] => { results := [.lit (.bool true)], args := [d1, d2, d3, d4, d5] }
  | _ => none }
def typesAllRow : OpenClaim := { program := "ytmdifoclojogpaagreatdoor", sum := "a710512b8880a112589d2273d343399d2229e5a908546ac90585c5311b1d8b52", func := "matchguard/matchguardlaw08.TypesAll", spec := "typesAll", unfollowed := true, recurses := true, named := ["matchguard/lexer.symbols", "matchguard/syntax.symbols", "matchguard/types.operators"], plainKeys := false, apart := false, laid := [("matchguard/lexer.symbols", laid_matchguard_lexer_symbols), ("matchguard/syntax.symbols", laid_matchguard_syntax_symbols), ("matchguard/types.operators", laid_matchguard_types_operators)] }
def TypesAllSaid : Prop := typesAllRow.holds Tryz.pinned (OpenSpec.ofChange typesAllSpec)

/-- ITS FALSE NEIGHBOUR: 'it returns false'. Refute it at one input. -/
def typesAllWrong : ChangeSpec := { name := "typesAll", fn := fun _ => fun
  | [d1, d2, d3, d4, d5] => { results := [.lit (.bool false)], args := [d1, d2, d3, d4, d5] }
  | _ => none }
def TypesAllWrongFalsely : Prop := typesAllRow.holds Tryz.pinned (OpenSpec.ofChange typesAllWrong)

/- THE SECOND FORM. 'bulk': how many values and letters a reading holds, each counted each time it is reached (what is shared counts as often as it is met; a slice's spare places count too). A statement '..UptoSaid' is the law's where the arguments, and the package variables that the reading takes, are together of bulk at most 1048576: NARROWER than '..Said'. Prove '..Said' where nothing that the law and all that it calls make is longer than what came in: it says more and counts as full. Else prove '..UptoSaid'. A law counts once. -/
mutual
def uptoBulk {H : Type} : DataW H → Nat
  | .lit (.string bytes) => bytes.length + 1
  | .lit _ => 1
  | .nil => 1
  | .ptr d => uptoBulk d + 1
  | .slice elems spare => uptoBulkAll elems + uptoBulkAll spare + 1
  | .agg parts => uptoBulkAll parts + 1
  | .iface _ d => uptoBulk d + 1
  | .map entries => uptoBulkEntries entries + 1
  | .held _ => 1
def uptoBulkAll {H : Type} : List (DataW H) → Nat
  | [] => 0
  | d :: r => uptoBulk d + uptoBulkAll r
def uptoBulkEntries {H : Type} : List (Lit × DataW H) → Nat
  | [] => 0
  | x :: r => uptoBulkEntry x + uptoBulkEntries r
def uptoBulkEntry {H : Type} : Lit × DataW H → Nat
  | (.string bytes, d) => bytes.length + uptoBulk d + 1
  | (_, d) => uptoBulk d + 1
 end
def uptoSmall : (H : Type) → List (DataW H) → Bool := fun _ ds => decide (uptoBulkAll ds ≤ 1048576)
def OpenSpec.upto (s : _root_.Go.ChangeSpec) : _root_.Go.OpenSpec := { _root_.Go.OpenSpec.ofChange s with cond := some uptoSmall }

/-- 'matchguardlaw07.SyntaxBack', WHERE WHAT IT READS IS OF BULK AT MOST 1048576: true; the input reads as it did. -/
def syntaxBackUptoRow : OpenClaim := { program := "ytmdifoclojogpaagreatdoor", sum := "a710512b8880a112589d2273d343399d2229e5a908546ac90585c5311b1d8b52", func := "matchguard/matchguardlaw07.SyntaxBack", spec := "syntaxBack", inPlace := ["internal/abi.NoEscape"], unfollowed := true, recurses := true, named := ["matchguard/lexer.symbols", "matchguard/syntax.symbols"], plainKeys := false, apart := false, laid := [("matchguard/lexer.symbols", laid_matchguard_lexer_symbols), ("matchguard/syntax.symbols", laid_matchguard_syntax_symbols)], narrowed := true }
def SyntaxBackUptoSaid : Prop := syntaxBackUptoRow.holds Tryz.pinned (OpenSpec.upto syntaxBackSpec)

/-- 'matchguardlaw08.TypesChecks', WHERE WHAT IT READS IS OF BULK AT MOST 1048576: true; the input reads as it did. -/
def typesChecksUptoRow : OpenClaim := { program := "ytmdifoclojogpaagreatdoor", sum := "a710512b8880a112589d2273d343399d2229e5a908546ac90585c5311b1d8b52", func := "matchguard/matchguardlaw08.TypesChecks", spec := "typesChecks", unfollowed := true, recurses := true, named := ["matchguard/lexer.symbols", "matchguard/syntax.symbols", "matchguard/types.operators"], plainKeys := false, apart := false, laid := [("matchguard/lexer.symbols", laid_matchguard_lexer_symbols), ("matchguard/syntax.symbols", laid_matchguard_syntax_symbols), ("matchguard/types.operators", laid_matchguard_types_operators)], narrowed := true }
def TypesChecksUptoSaid : Prop := typesChecksUptoRow.holds Tryz.pinned (OpenSpec.upto typesChecksSpec)

/-- 'matchguardlaw08.TypesCompiles', WHERE WHAT IT READS IS OF BULK AT MOST 1048576: true; the input reads as it did. -/
def typesCompilesUptoRow : OpenClaim := { program := "ytmdifoclojogpaagreatdoor", sum := "a710512b8880a112589d2273d343399d2229e5a908546ac90585c5311b1d8b52", func := "matchguard/matchguardlaw08.TypesCompiles", spec := "typesCompiles", unfollowed := true, recurses := true, named := ["matchguard/lexer.symbols", "matchguard/syntax.symbols", "matchguard/types.operators"], plainKeys := false, apart := false, laid := [("matchguard/lexer.symbols", laid_matchguard_lexer_symbols), ("matchguard/syntax.symbols", laid_matchguard_syntax_symbols), ("matchguard/types.operators", laid_matchguard_types_operators)], narrowed := true }
def TypesCompilesUptoSaid : Prop := typesCompilesUptoRow.holds Tryz.pinned (OpenSpec.upto typesCompilesSpec)

/-- 'matchguardlaw08.TypesAll', WHERE WHAT IT READS IS OF BULK AT MOST 1048576: true; the input reads as it did. -/
def typesAllUptoRow : OpenClaim := { program := "ytmdifoclojogpaagreatdoor", sum := "a710512b8880a112589d2273d343399d2229e5a908546ac90585c5311b1d8b52", func := "matchguard/matchguardlaw08.TypesAll", spec := "typesAll", unfollowed := true, recurses := true, named := ["matchguard/lexer.symbols", "matchguard/syntax.symbols", "matchguard/types.operators"], plainKeys := false, apart := false, laid := [("matchguard/lexer.symbols", laid_matchguard_lexer_symbols), ("matchguard/syntax.symbols", laid_matchguard_syntax_symbols), ("matchguard/types.operators", laid_matchguard_types_operators)], narrowed := true }
def TypesAllUptoSaid : Prop := typesAllUptoRow.holds Tryz.pinned (OpenSpec.upto typesAllSpec)

end Rows
end Go.Proofs.YtmdifoclojogpaaGreatDoor
