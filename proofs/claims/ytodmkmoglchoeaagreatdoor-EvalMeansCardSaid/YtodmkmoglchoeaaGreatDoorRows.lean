/-
  NARROWER THAN 'FOR EVERY INPUT', by the rows' own cells (each row's printed sentence says how): TypesAll: laid · EvalBinds: laid · EvalMeans: laid · EvalAdmits: laid.
  DERIVED. THE GIVEN ROWS OF THIS SEAT. 4 by the template 'for every input the law returns true; each argument reads behind the call as it read before'; 0 by the template 'total and deterministic' (their statements: YtodmkmoglchoeaaGreatDoorTotals.lean).
  GIVEN WITH THE SEED: the statements are not yours to turn. If you find one false, say at which input.
  Laid BY PROGRAM, IN A SANDBOX (cutbox-rows.mjs): the forced cells as the released guide's own fill.sh prints them over the translation 81761d83aa666739… (all of the seat's roots in one cut). By AI agents, Wed Nov 11 2026. No macro, syntax, notation, axiom, sorry.
-/
import Derived.Test.YtodmkmoglchoeaaGreatDoorChecked
import GoSem.Claim
import GoSem.ClaimJoined
import GoSem.ClaimMapViews
import Derived.JoinedTies
import Derived.KernelRfl
namespace Go.Proofs.YtodmkmoglchoeaaGreatDoor
/- THE CELL 'sum', in the pinned program and in every row, IS THE sha256 OF THE DUMP (.gsa) THAT YtodmkmoglchoeaaGreatDoorProg.lean LOADS. Nothing in Lean hashes anything: it is a label: what it is worth is what the hold of that sum in a sandbox is worth. -/
noncomputable def Tryz.pinned : Pinned := { name := "ytodmkmoglchoeaagreatdoor", sum := "81761d83aa66673968bce4f620b3823ac260a9310b0dfb193b64c38729f70b44", checked := Tryz.checked }
namespace Rows
def none {H : Type} : Left H := { results := [], args := [] }

/- WHAT THE LISTED PACKAGE-LEVEL VARIABLES READ AS WHEN THE CALL BEGINS. Each datum BY PROGRAM (the guide's laid-datum.mjs) off the statement by which the dump's own 'gosem.cut.vars' lays the variable. In a bare row this is a premise. The card (YtodmkmoglchoeaaGreatDoorCards.lean) ties it to the program's text. -/
def laid_matchguard_lexer_symbols {H : Type} : DataW H := .agg [.lit (.string [38, 38]), .lit (.string [124, 124]), .lit (.string [45, 62]), .lit (.string [61, 61]), .lit (.string [33, 61]), .lit (.string [60, 61]), .lit (.string [62, 61]), .lit (.string [58, 58]), .lit (.string [40]), .lit (.string [41]), .lit (.string [33]), .lit (.string [60]), .lit (.string [62]), .lit (.string [43]), .lit (.string [45])]
def laid_matchguard_syntax_symbols {H : Type} : DataW H := .agg [.lit (.string []), .lit (.string []), .lit (.string []), .lit (.string []), .lit (.string [45]), .lit (.string [33]), .lit (.string [43]), .lit (.string [45]), .lit (.string [61, 61]), .lit (.string [33, 61]), .lit (.string [60]), .lit (.string [60, 61]), .lit (.string [62]), .lit (.string [62, 61]), .lit (.string [38, 38]), .lit (.string [124, 124]), .lit (.string [45, 62])]
def laid_matchguard_types_operators {H : Type} : DataW H := .agg [.agg [.lit (.int .i64 0), .lit (.int .i64 0), .lit (.int .i64 0)], .agg [.lit (.int .i64 0), .lit (.int .i64 0), .lit (.int .i64 1)], .agg [.lit (.int .i64 0), .lit (.int .i64 0), .lit (.int .i64 2)], .agg [.lit (.int .i64 0), .lit (.int .i64 0), .lit (.int .i64 1)], .agg [.lit (.int .i64 1), .lit (.int .i64 1), .lit (.int .i64 1)], .agg [.lit (.int .i64 1), .lit (.int .i64 2), .lit (.int .i64 2)], .agg [.lit (.int .i64 2), .lit (.int .i64 1), .lit (.int .i64 1)], .agg [.lit (.int .i64 2), .lit (.int .i64 1), .lit (.int .i64 1)], .agg [.lit (.int .i64 2), .lit (.int .i64 3), .lit (.int .i64 2)], .agg [.lit (.int .i64 2), .lit (.int .i64 3), .lit (.int .i64 2)], .agg [.lit (.int .i64 2), .lit (.int .i64 1), .lit (.int .i64 2)], .agg [.lit (.int .i64 2), .lit (.int .i64 1), .lit (.int .i64 2)], .agg [.lit (.int .i64 2), .lit (.int .i64 1), .lit (.int .i64 2)], .agg [.lit (.int .i64 2), .lit (.int .i64 1), .lit (.int .i64 2)], .agg [.lit (.int .i64 2), .lit (.int .i64 2), .lit (.int .i64 2)], .agg [.lit (.int .i64 2), .lit (.int .i64 2), .lit (.int .i64 2)], .agg [.lit (.int .i64 2), .lit (.int .i64 2), .lit (.int .i64 2)]]

/-- 'matchguardlaw08.TypesAll': WHATEVER THE INPUT: true; the input reads as it did. -/
def typesAllSpec : ChangeSpec := { name := "typesAll", fn := fun _ => fun
  | [d1, d2, d3, d4, d5] => { results := [.lit (.bool true)], args := [d1, d2, d3, d4, d5] }
  | _ => none }
def typesAllRow : OpenClaim := { program := "ytodmkmoglchoeaagreatdoor", sum := "81761d83aa66673968bce4f620b3823ac260a9310b0dfb193b64c38729f70b44", func := "matchguard/matchguardlaw08.TypesAll", spec := "typesAll", unfollowed := true, recurses := true, named := ["matchguard/lexer.symbols", "matchguard/syntax.symbols", "matchguard/types.operators"], plainKeys := false, apart := false, laid := [("matchguard/lexer.symbols", laid_matchguard_lexer_symbols), ("matchguard/syntax.symbols", laid_matchguard_syntax_symbols), ("matchguard/types.operators", laid_matchguard_types_operators)] }
def TypesAllSaid : Prop := typesAllRow.holds Tryz.pinned (OpenSpec.ofChange typesAllSpec)

/-- ITS FALSE NEIGHBOUR: 'it returns false'. Refute it at one input. -/
def typesAllWrong : ChangeSpec := { name := "typesAll", fn := fun _ => fun
  | [d1, d2, d3, d4, d5] => { results := [.lit (.bool false)], args := [d1, d2, d3, d4, d5] }
  | _ => none }
def TypesAllWrongFalsely : Prop := typesAllRow.holds Tryz.pinned (OpenSpec.ofChange typesAllWrong)

/-- 'matchguardlaw09.EvalBinds': WHATEVER THE INPUT: true; the input reads as it did. -/
def evalBindsSpec : ChangeSpec := { name := "evalBinds", fn := fun _ => fun
  | [d1, d2, d3, d4, d5] => { results := [.lit (.bool true)], args := [d1, d2, d3, d4, d5] }
  | _ => none }
def evalBindsRow : OpenClaim := { program := "ytodmkmoglchoeaagreatdoor", sum := "81761d83aa66673968bce4f620b3823ac260a9310b0dfb193b64c38729f70b44", func := "matchguard/matchguardlaw09.EvalBinds", spec := "evalBinds", unfollowed := true, recurses := true, named := ["matchguard/lexer.symbols", "matchguard/syntax.symbols", "matchguard/types.operators"], plainKeys := false, apart := false, laid := [("matchguard/lexer.symbols", laid_matchguard_lexer_symbols), ("matchguard/syntax.symbols", laid_matchguard_syntax_symbols), ("matchguard/types.operators", laid_matchguard_types_operators)] }
def EvalBindsSaid : Prop := evalBindsRow.holds Tryz.pinned (OpenSpec.ofChange evalBindsSpec)

/-- ITS FALSE NEIGHBOUR: 'it returns false'. Refute it at one input. -/
def evalBindsWrong : ChangeSpec := { name := "evalBinds", fn := fun _ => fun
  | [d1, d2, d3, d4, d5] => { results := [.lit (.bool false)], args := [d1, d2, d3, d4, d5] }
  | _ => none }
def EvalBindsWrongFalsely : Prop := evalBindsRow.holds Tryz.pinned (OpenSpec.ofChange evalBindsWrong)

/-- 'matchguardlaw09.EvalMeans': WHATEVER THE INPUT: true; the input reads as it did. -/
def evalMeansSpec : ChangeSpec := { name := "evalMeans", fn := fun _ => fun
  | [d1, d2] => { results := [.lit (.bool true)], args := [d1, d2] }
  | _ => none }
def evalMeansRow : OpenClaim := { program := "ytodmkmoglchoeaagreatdoor", sum := "81761d83aa66673968bce4f620b3823ac260a9310b0dfb193b64c38729f70b44", func := "matchguard/matchguardlaw09.EvalMeans", spec := "evalMeans", unfollowed := true, recurses := true, named := ["matchguard/lexer.symbols", "matchguard/syntax.symbols", "matchguard/types.operators"], plainKeys := false, apart := false, laid := [("matchguard/lexer.symbols", laid_matchguard_lexer_symbols), ("matchguard/syntax.symbols", laid_matchguard_syntax_symbols), ("matchguard/types.operators", laid_matchguard_types_operators)] }
def EvalMeansSaid : Prop := evalMeansRow.holds Tryz.pinned (OpenSpec.ofChange evalMeansSpec)

/-- ITS FALSE NEIGHBOUR: 'it returns false'. Refute it at one input. -/
def evalMeansWrong : ChangeSpec := { name := "evalMeans", fn := fun _ => fun
  | [d1, d2] => { results := [.lit (.bool false)], args := [d1, d2] }
  | _ => none }
def EvalMeansWrongFalsely : Prop := evalMeansRow.holds Tryz.pinned (OpenSpec.ofChange evalMeansWrong)

/-- 'matchguardlaw09.EvalAdmits': WHATEVER THE INPUT: true; the input reads as it did. -/
def evalAdmitsSpec : ChangeSpec := { name := "evalAdmits", fn := fun _ => fun
  | [d1, d2, d3] => { results := [.lit (.bool true)], args := [d1, d2, d3] }
  | _ => none }
def evalAdmitsRow : OpenClaim := { program := "ytodmkmoglchoeaagreatdoor", sum := "81761d83aa66673968bce4f620b3823ac260a9310b0dfb193b64c38729f70b44", func := "matchguard/matchguardlaw09.EvalAdmits", spec := "evalAdmits", unfollowed := true, recurses := true, named := ["matchguard/lexer.symbols", "matchguard/syntax.symbols", "matchguard/types.operators"], plainKeys := false, apart := false, laid := [("matchguard/lexer.symbols", laid_matchguard_lexer_symbols), ("matchguard/syntax.symbols", laid_matchguard_syntax_symbols), ("matchguard/types.operators", laid_matchguard_types_operators)] }
def EvalAdmitsSaid : Prop := evalAdmitsRow.holds Tryz.pinned (OpenSpec.ofChange evalAdmitsSpec)

/-- ITS FALSE NEIGHBOUR: 'it returns false'. Refute it at one input. -/
def evalAdmitsWrong : ChangeSpec := { name := "evalAdmits", fn := fun _ => fun
  | [d1, d2, d3] => { results := [.lit (.bool false)], args := [d1, d2, d3] }
  | _ => none }
def EvalAdmitsWrongFalsely : Prop := evalAdmitsRow.holds Tryz.pinned (OpenSpec.ofChange evalAdmitsWrong)

/- THE SECOND FORM. 'bulk': how many values and letters a reading holds, each counted each time it is reached (what is shared counts as often as it is met; a slice's spare places count too). A statement '..UptoSaid' is the law's where the arguments, and the package variables that the reading takes, are together of bulk at most 1048576: NARROWER than '..Said'. Prove '..Said' where nothing that the law and all that it calls make is longer than what came in: it says more and counts as full. Else prove '..UptoSaid'. A law counts once. -/
mutual
def uptoBulk {H : Type} : DataW H → Nat
  | .lit (.string bytes) => bytes.length + 1
  | .lit _ => 1
  | .nil => 1
  | .ptr d => uptoBulk d + 1
  | .slice elems spare => uptoBulkAll elems + uptoBulkAll spare + 1
  | .agg parts => uptoBulkAll parts + 1
  | .iface _ d => uptoBulk d + 1
  | .map entries => uptoBulkEntries entries + 1
  | .held _ => 1
def uptoBulkAll {H : Type} : List (DataW H) → Nat
  | [] => 0
  | d :: r => uptoBulk d + uptoBulkAll r
def uptoBulkEntries {H : Type} : List (Lit × DataW H) → Nat
  | [] => 0
  | x :: r => uptoBulkEntry x + uptoBulkEntries r
def uptoBulkEntry {H : Type} : Lit × DataW H → Nat
  | (.string bytes, d) => bytes.length + uptoBulk d + 1
  | (_, d) => uptoBulk d + 1
 end
def uptoSmall : (H : Type) → List (DataW H) → Bool := fun _ ds => decide (uptoBulkAll ds ≤ 1048576)
def OpenSpec.upto (s : _root_.Go.ChangeSpec) : _root_.Go.OpenSpec := { _root_.Go.OpenSpec.ofChange s with cond := some uptoSmall }

/-- 'matchguardlaw08.TypesAll', WHERE WHAT IT READS IS OF BULK AT MOST 1048576: true; the input reads as it did. -/
def typesAllUptoRow : OpenClaim := { program := "ytodmkmoglchoeaagreatdoor", sum := "81761d83aa66673968bce4f620b3823ac260a9310b0dfb193b64c38729f70b44", func := "matchguard/matchguardlaw08.TypesAll", spec := "typesAll", unfollowed := true, recurses := true, named := ["matchguard/lexer.symbols", "matchguard/syntax.symbols", "matchguard/types.operators"], plainKeys := false, apart := false, laid := [("matchguard/lexer.symbols", laid_matchguard_lexer_symbols), ("matchguard/syntax.symbols", laid_matchguard_syntax_symbols), ("matchguard/types.operators", laid_matchguard_types_operators)], narrowed := true }
def TypesAllUptoSaid : Prop := typesAllUptoRow.holds Tryz.pinned (OpenSpec.upto typesAllSpec)

/-- 'matchguardlaw09.EvalBinds', WHERE WHAT IT READS IS OF BULK AT MOST 1048576: true; the input reads as it did. -/
def evalBindsUptoRow : OpenClaim := { program := "ytodmkmoglchoeaagreatdoor", sum := "81761d83aa66673968bce4f620b3823ac260a9310b0dfb193b64c38729f70b44", func := "matchguard/matchguardlaw09.EvalBinds", spec := "evalBinds", unfollowed := true, recurses := true, named := ["matchguard/lexer.symbols", "matchguard/syntax.symbols", "matchguard/types.operators"], plainKeys := false, apart := false, laid := [("matchguard/lexer.symbols", laid_matchguard_lexer_symbols), ("matchguard/syntax.symbols", laid_matchguard_syntax_symbols), ("matchguard/types.operators", laid_matchguard_types_operators)], narrowed := true }
def EvalBindsUptoSaid : Prop := evalBindsUptoRow.holds Tryz.pinned (OpenSpec.upto evalBindsSpec)

/-- 'matchguardlaw09.EvalMeans', WHERE WHAT IT READS IS OF BULK AT MOST 1048576: true; the input reads as it did. -/
def evalMeansUptoRow : OpenClaim := { program := "ytodmkmoglchoeaagreatdoor", sum := "81761d83aa66673968bce4f620b3823ac260a9310b0dfb193b64c38729f70b44", func := "matchguard/matchguardlaw09.EvalMeans", spec := "evalMeans", unfollowed := true, recurses := true, named := ["matchguard/lexer.symbols", "matchguard/syntax.symbols", "matchguard/types.operators"], plainKeys := false, apart := false, laid := [("matchguard/lexer.symbols", laid_matchguard_lexer_symbols), ("matchguard/syntax.symbols", laid_matchguard_syntax_symbols), ("matchguard/types.operators", laid_matchguard_types_operators)], narrowed := true }
def EvalMeansUptoSaid : Prop := evalMeansUptoRow.holds Tryz.pinned (OpenSpec.upto evalMeansSpec)

/-- 'matchguardlaw09.EvalAdmits', WHERE WHAT IT READS IS OF BULK AT MOST 1048576: true; the input reads as it did. -/
def evalAdmitsUptoRow : OpenClaim := { program := "ytodmkmoglchoeaagreatdoor", sum := "81761d83aa66673968bce4f620b3823ac260a9310b0dfb193b64c38729f70b44", func := "matchguard/matchguardlaw09.EvalAdmits", spec := "evalAdmits", unfollowed := true, recurses := true, named := ["matchguard/lexer.symbols", "matchguard/syntax.symbols", "matchguard/types.operators"], plainKeys := false, apart := false, laid := [("matchguard/lexer.symbols", laid_matchguard_lexer_symbols), ("matchguard/syntax.symbols", laid_matchguard_syntax_symbols), ("matchguard/types.operators", laid_matchguard_types_operators)], narrowed := true }
def EvalAdmitsUptoSaid : Prop := evalAdmitsUptoRow.holds Tryz.pinned (OpenSpec.upto evalAdmitsSpec)

end Rows
end Go.Proofs.YtodmkmoglchoeaaGreatDoor
