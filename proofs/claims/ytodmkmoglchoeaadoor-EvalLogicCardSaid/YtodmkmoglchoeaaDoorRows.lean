/-
  NARROWER THAN 'FOR EVERY INPUT', by the rows' own cells (each row's printed sentence says how): TypesVars: laid · EvalLogic: laid · EvalOrder: laid.
  DERIVED. THE GIVEN ROWS OF THIS SEAT. 3 by the template 'for every input the law returns true; each argument reads behind the call as it read before'; 0 by the template 'total and deterministic' (their statements: YtodmkmoglchoeaaDoorTotals.lean).
  GIVEN WITH THE SEED: the statements are not yours to turn. If you find one false, say at which input.
  Laid BY PROGRAM, IN A SANDBOX (cutbox-rows.mjs): the forced cells as the released guide's own fill.sh prints them over the translation 78c3a275540a5885… (all of the seat's roots in one cut). By AI agents, Wed Nov 11 2026. No macro, syntax, notation, axiom, sorry.
-/
import Derived.Test.YtodmkmoglchoeaaDoorChecked
import GoSem.Claim
import GoSem.ClaimJoined
import GoSem.ClaimMapViews
import Derived.JoinedTies
import Derived.KernelRfl
namespace Go.Proofs.YtodmkmoglchoeaaDoor
/- THE CELL 'sum', in the pinned program and in every row, IS THE sha256 OF THE DUMP (.gsa) THAT YtodmkmoglchoeaaDoorProg.lean LOADS. Nothing in Lean hashes anything: it is a label: what it is worth is what the hold of that sum in a sandbox is worth. -/
noncomputable def Tryd.pinned : Pinned := { name := "ytodmkmoglchoeaadoor", sum := "78c3a275540a5885afda91df3a091ad76487c82c4c54151a6882a01e26bd500a", checked := Tryd.checked }
namespace Rows
def none {H : Type} : Left H := { results := [], args := [] }

/- WHAT THE LISTED PACKAGE-LEVEL VARIABLES READ AS WHEN THE CALL BEGINS. Each datum BY PROGRAM (the guide's laid-datum.mjs) off the statement by which the dump's own 'gosem.cut.vars' lays the variable. In a bare row this is a premise. The card (YtodmkmoglchoeaaDoorCards.lean) ties it to the program's text. -/
def laid_matchguard_lexer_symbols {H : Type} : DataW H := .agg [.lit (.string [38, 38]), .lit (.string [124, 124]), .lit (.string [45, 62]), .lit (.string [61, 61]), .lit (.string [33, 61]), .lit (.string [60, 61]), .lit (.string [62, 61]), .lit (.string [58, 58]), .lit (.string [40]), .lit (.string [41]), .lit (.string [33]), .lit (.string [60]), .lit (.string [62]), .lit (.string [43]), .lit (.string [45])]
def laid_matchguard_syntax_symbols {H : Type} : DataW H := .agg [.lit (.string []), .lit (.string []), .lit (.string []), .lit (.string []), .lit (.string [45]), .lit (.string [33]), .lit (.string [43]), .lit (.string [45]), .lit (.string [61, 61]), .lit (.string [33, 61]), .lit (.string [60]), .lit (.string [60, 61]), .lit (.string [62]), .lit (.string [62, 61]), .lit (.string [38, 38]), .lit (.string [124, 124]), .lit (.string [45, 62])]
def laid_matchguard_types_operators {H : Type} : DataW H := .agg [.agg [.lit (.int .i64 0), .lit (.int .i64 0), .lit (.int .i64 0)], .agg [.lit (.int .i64 0), .lit (.int .i64 0), .lit (.int .i64 1)], .agg [.lit (.int .i64 0), .lit (.int .i64 0), .lit (.int .i64 2)], .agg [.lit (.int .i64 0), .lit (.int .i64 0), .lit (.int .i64 1)], .agg [.lit (.int .i64 1), .lit (.int .i64 1), .lit (.int .i64 1)], .agg [.lit (.int .i64 1), .lit (.int .i64 2), .lit (.int .i64 2)], .agg [.lit (.int .i64 2), .lit (.int .i64 1), .lit (.int .i64 1)], .agg [.lit (.int .i64 2), .lit (.int .i64 1), .lit (.int .i64 1)], .agg [.lit (.int .i64 2), .lit (.int .i64 3), .lit (.int .i64 2)], .agg [.lit (.int .i64 2), .lit (.int .i64 3), .lit (.int .i64 2)], .agg [.lit (.int .i64 2), .lit (.int .i64 1), .lit (.int .i64 2)], .agg [.lit (.int .i64 2), .lit (.int .i64 1), .lit (.int .i64 2)], .agg [.lit (.int .i64 2), .lit (.int .i64 1), .lit (.int .i64 2)], .agg [.lit (.int .i64 2), .lit (.int .i64 1), .lit (.int .i64 2)], .agg [.lit (.int .i64 2), .lit (.int .i64 2), .lit (.int .i64 2)], .agg [.lit (.int .i64 2), .lit (.int .i64 2), .lit (.int .i64 2)], .agg [.lit (.int .i64 2), .lit (.int .i64 2), .lit (.int .i64 2)]]

/-- 'matchguardlaw08.TypesVars': WHATEVER THE INPUT: true; the input reads as it did. -/
def typesVarsSpec : ChangeSpec := { name := "typesVars", fn := fun _ => fun
  | [d1, d2, d3] => { results := [.lit (.bool true)], args := [d1, d2, d3] }
  | _ => none }
def typesVarsRow : OpenClaim := { program := "ytodmkmoglchoeaadoor", sum := "78c3a275540a5885afda91df3a091ad76487c82c4c54151a6882a01e26bd500a", func := "matchguard/matchguardlaw08.TypesVars", spec := "typesVars", unfollowed := true, recurses := true, named := ["matchguard/lexer.symbols", "matchguard/syntax.symbols", "matchguard/types.operators"], plainKeys := false, apart := false, laid := [("matchguard/lexer.symbols", laid_matchguard_lexer_symbols), ("matchguard/syntax.symbols", laid_matchguard_syntax_symbols), ("matchguard/types.operators", laid_matchguard_types_operators)] }
def TypesVarsSaid : Prop := typesVarsRow.holds Tryd.pinned (OpenSpec.ofChange typesVarsSpec)

/-- ITS FALSE NEIGHBOUR: 'it returns false'. Refute it at one input. -/
def typesVarsWrong : ChangeSpec := { name := "typesVars", fn := fun _ => fun
  | [d1, d2, d3] => { results := [.lit (.bool false)], args := [d1, d2, d3] }
  | _ => none }
def TypesVarsWrongFalsely : Prop := typesVarsRow.holds Tryd.pinned (OpenSpec.ofChange typesVarsWrong)

/-- 'matchguardlaw09.EvalLogic': WHATEVER THE INPUT: true; the input reads as it did. -/
def evalLogicSpec : ChangeSpec := { name := "evalLogic", fn := fun _ => fun
  | [d1, d2, d3] => { results := [.lit (.bool true)], args := [d1, d2, d3] }
  | _ => none }
def evalLogicRow : OpenClaim := { program := "ytodmkmoglchoeaadoor", sum := "78c3a275540a5885afda91df3a091ad76487c82c4c54151a6882a01e26bd500a", func := "matchguard/matchguardlaw09.EvalLogic", spec := "evalLogic", unfollowed := true, recurses := true, named := ["matchguard/lexer.symbols", "matchguard/syntax.symbols", "matchguard/types.operators"], plainKeys := false, apart := false, laid := [("matchguard/lexer.symbols", laid_matchguard_lexer_symbols), ("matchguard/syntax.symbols", laid_matchguard_syntax_symbols), ("matchguard/types.operators", laid_matchguard_types_operators)] }
def EvalLogicSaid : Prop := evalLogicRow.holds Tryd.pinned (OpenSpec.ofChange evalLogicSpec)

/-- ITS FALSE NEIGHBOUR: 'it returns false'. Refute it at one input. -/
def evalLogicWrong : ChangeSpec := { name := "evalLogic", fn := fun _ => fun
  | [d1, d2, d3] => { results := [.lit (.bool false)], args := [d1, d2, d3] }
  | _ => none }
def EvalLogicWrongFalsely : Prop := evalLogicRow.holds Tryd.pinned (OpenSpec.ofChange evalLogicWrong)

/-- 'matchguardlaw09.EvalOrder': WHATEVER THE INPUT: true; the input reads as it did. -/
def evalOrderSpec : ChangeSpec := { name := "evalOrder", fn := fun _ => fun
  | [d1, d2] => { results := [.lit (.bool true)], args := [d1, d2] }
  | _ => none }
def evalOrderRow : OpenClaim := { program := "ytodmkmoglchoeaadoor", sum := "78c3a275540a5885afda91df3a091ad76487c82c4c54151a6882a01e26bd500a", func := "matchguard/matchguardlaw09.EvalOrder", spec := "evalOrder", unfollowed := true, recurses := true, named := ["matchguard/lexer.symbols", "matchguard/syntax.symbols", "matchguard/types.operators"], plainKeys := false, apart := false, laid := [("matchguard/lexer.symbols", laid_matchguard_lexer_symbols), ("matchguard/syntax.symbols", laid_matchguard_syntax_symbols), ("matchguard/types.operators", laid_matchguard_types_operators)] }
def EvalOrderSaid : Prop := evalOrderRow.holds Tryd.pinned (OpenSpec.ofChange evalOrderSpec)

/-- ITS FALSE NEIGHBOUR: 'it returns false'. Refute it at one input. -/
def evalOrderWrong : ChangeSpec := { name := "evalOrder", fn := fun _ => fun
  | [d1, d2] => { results := [.lit (.bool false)], args := [d1, d2] }
  | _ => none }
def EvalOrderWrongFalsely : Prop := evalOrderRow.holds Tryd.pinned (OpenSpec.ofChange evalOrderWrong)

/- THE SECOND FORM. 'bulk': how many values and letters a reading holds, each counted each time it is reached (what is shared counts as often as it is met; a slice's spare places count too). A statement '..UptoSaid' is the law's where the arguments, and the package variables that the reading takes, are together of bulk at most 1048576: NARROWER than '..Said'. Prove '..Said' where nothing that the law and all that it calls make is longer than what came in: it says more and counts as full. Else prove '..UptoSaid'. A law counts once. -/
mutual
def uptoBulk {H : Type} : DataW H → Nat
  | .lit (.string bytes) => bytes.length + 1
  | .lit _ => 1
  | .nil => 1
  | .ptr d => uptoBulk d + 1
  | .slice elems spare => uptoBulkAll elems + uptoBulkAll spare + 1
  | .agg parts => uptoBulkAll parts + 1
  | .iface _ d => uptoBulk d + 1
  | .map entries => uptoBulkEntries entries + 1
  | .held _ => 1
def uptoBulkAll {H : Type} : List (DataW H) → Nat
  | [] => 0
  | d :: r => uptoBulk d + uptoBulkAll r
def uptoBulkEntries {H : Type} : List (Lit × DataW H) → Nat
  | [] => 0
  | x :: r => uptoBulkEntry x + uptoBulkEntries r
def uptoBulkEntry {H : Type} : Lit × DataW H → Nat
  | (.string bytes, d) => bytes.length + uptoBulk d + 1
  | (_, d) => uptoBulk d + 1
 end
def uptoSmall : (H : Type) → List (DataW H) → Bool := fun _ ds => decide (uptoBulkAll ds ≤ 1048576)
def OpenSpec.upto (s : _root_.Go.ChangeSpec) : _root_.Go.OpenSpec := { _root_.Go.OpenSpec.ofChange s with cond := some uptoSmall }

/-- 'matchguardlaw08.TypesVars', WHERE WHAT IT READS IS OF BULK AT MOST 1048576: true; the input reads as it did. -/
def typesVarsUptoRow : OpenClaim := { program := "ytodmkmoglchoeaadoor", sum := "78c3a275540a5885afda91df3a091ad76487c82c4c54151a6882a01e26bd500a", func := "matchguard/matchguardlaw08.TypesVars", spec := "typesVars", unfollowed := true, recurses := true, named := ["matchguard/lexer.symbols", "matchguard/syntax.symbols", "matchguard/types.operators"], plainKeys := false, apart := false, laid := [("matchguard/lexer.symbols", laid_matchguard_lexer_symbols), ("matchguard/syntax.symbols", laid_matchguard_syntax_symbols), ("matchguard/types.operators", laid_matchguard_types_operators)], narrowed := true }
def TypesVarsUptoSaid : Prop := typesVarsUptoRow.holds Tryd.pinned (OpenSpec.upto typesVarsSpec)

/-- 'matchguardlaw09.EvalLogic', WHERE WHAT IT READS IS OF BULK AT MOST 1048576: true; the input reads as it did. -/
def evalLogicUptoRow : OpenClaim := { program := "ytodmkmoglchoeaadoor", sum := "78c3a275540a5885afda91df3a091ad76487c82c4c54151a6882a01e26bd500a", func := "matchguard/matchguardlaw09.EvalLogic", spec := "evalLogic", unfollowed := true, recurses := true, named := ["matchguard/lexer.symbols", "matchguard/syntax.symbols", "matchguard/types.operators"], plainKeys := false, apart := false, laid := [("matchguard/lexer.symbols", laid_matchguard_lexer_symbols), ("matchguard/syntax.symbols", laid_matchguard_syntax_symbols), ("matchguard/types.operators", laid_matchguard_types_operators)], narrowed := true }
def EvalLogicUptoSaid : Prop := evalLogicUptoRow.holds Tryd.pinned (OpenSpec.upto evalLogicSpec)

/-- 'matchguardlaw09.EvalOrder', WHERE WHAT IT READS IS OF BULK AT MOST 1048576: true; the input reads as it did. -/
def evalOrderUptoRow : OpenClaim := { program := "ytodmkmoglchoeaadoor", sum := "78c3a275540a5885afda91df3a091ad76487c82c4c54151a6882a01e26bd500a", func := "matchguard/matchguardlaw09.EvalOrder", spec := "evalOrder", unfollowed := true, recurses := true, named := ["matchguard/lexer.symbols", "matchguard/syntax.symbols", "matchguard/types.operators"], plainKeys := false, apart := false, laid := [("matchguard/lexer.symbols", laid_matchguard_lexer_symbols), ("matchguard/syntax.symbols", laid_matchguard_syntax_symbols), ("matchguard/types.operators", laid_matchguard_types_operators)], narrowed := true }
def EvalOrderUptoSaid : Prop := evalOrderUptoRow.holds Tryd.pinned (OpenSpec.upto evalOrderSpec)

end Rows
end Go.Proofs.YtodmkmoglchoeaaDoor
