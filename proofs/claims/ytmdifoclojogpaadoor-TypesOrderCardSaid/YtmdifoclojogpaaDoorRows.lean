/-
  NARROWER THAN 'FOR EVERY INPUT', by the rows' own cells (each row's printed sentence says how): SyntaxParses: laid · SyntaxParentheses: laid · SyntaxLimits: laid · SyntaxSame: laid · TypesVars: laid · TypesOrder: laid.
  DERIVED. THE GIVEN ROWS OF THIS SEAT. 6 by the template 'for every input the law returns true; each argument reads behind the call as it read before'; 0 by the template 'total and deterministic' (their statements: YtmdifoclojogpaaDoorTotals.lean).
  GIVEN WITH THE SEED: the statements are not yours to turn. If you find one false, say at which input.
  Laid BY PROGRAM, IN A SANDBOX (cutbox-rows.mjs): the forced cells as the released guide's own fill.sh prints them over the translation 13a020efede8b2af… (all of the seat's roots in one cut). By AI agents, Wed Nov 11 2026. No macro, syntax, notation, axiom, sorry.
-/
import Derived.Test.YtmdifoclojogpaaDoorChecked
import GoSem.Claim
import GoSem.ClaimJoined
import GoSem.ClaimMapViews
import Derived.JoinedTies
import Derived.KernelRfl
namespace Go.Proofs.YtmdifoclojogpaaDoor
/- THE CELL 'sum', in the pinned program and in every row, IS THE sha256 OF THE DUMP (.gsa) THAT YtmdifoclojogpaaDoorProg.lean LOADS. Nothing in Lean hashes anything: it is a label: what it is worth is what the hold of that sum in a sandbox is worth. -/
noncomputable def Tryd.pinned : Pinned := { name := "ytmdifoclojogpaadoor", sum := "13a020efede8b2afb3cd9e8e66e9bd0ab9248ebae7b0724c12acd0c69a4b1260", checked := Tryd.checked }
namespace Rows
def none {H : Type} : Left H := { results := [], args := [] }

/- WHAT THE LISTED PACKAGE-LEVEL VARIABLES READ AS WHEN THE CALL BEGINS. Each datum BY PROGRAM (the guide's laid-datum.mjs) off the statement by which the dump's own 'gosem.cut.vars' lays the variable. In a bare row this is a premise. The card (YtmdifoclojogpaaDoorCards.lean) ties it to the program's text. -/
def laid_matchguard_lexer_symbols {H : Type} : DataW H := .agg [.lit (.string [38, 38]), .lit (.string [124, 124]), .lit (.string [45, 62]), .lit (.string [61, 61]), .lit (.string [33, 61]), .lit (.string [60, 61]), .lit (.string [62, 61]), .lit (.string [58, 58]), .lit (.string [40]), .lit (.string [41]), .lit (.string [33]), .lit (.string [60]), .lit (.string [62]), .lit (.string [43]), .lit (.string [45])]
def laid_matchguard_syntax_symbols {H : Type} : DataW H := .agg [.lit (.string []), .lit (.string []), .lit (.string []), .lit (.string []), .lit (.string [45]), .lit (.string [33]), .lit (.string [43]), .lit (.string [45]), .lit (.string [61, 61]), .lit (.string [33, 61]), .lit (.string [60]), .lit (.string [60, 61]), .lit (.string [62]), .lit (.string [62, 61]), .lit (.string [38, 38]), .lit (.string [124, 124]), .lit (.string [45, 62])]
def laid_matchguard_types_operators {H : Type} : DataW H := .agg [.agg [.lit (.int .i64 0), .lit (.int .i64 0), .lit (.int .i64 0)], .agg [.lit (.int .i64 0), .lit (.int .i64 0), .lit (.int .i64 1)], .agg [.lit (.int .i64 0), .lit (.int .i64 0), .lit (.int .i64 2)], .agg [.lit (.int .i64 0), .lit (.int .i64 0), .lit (.int .i64 1)], .agg [.lit (.int .i64 1), .lit (.int .i64 1), .lit (.int .i64 1)], .agg [.lit (.int .i64 1), .lit (.int .i64 2), .lit (.int .i64 2)], .agg [.lit (.int .i64 2), .lit (.int .i64 1), .lit (.int .i64 1)], .agg [.lit (.int .i64 2), .lit (.int .i64 1), .lit (.int .i64 1)], .agg [.lit (.int .i64 2), .lit (.int .i64 3), .lit (.int .i64 2)], .agg [.lit (.int .i64 2), .lit (.int .i64 3), .lit (.int .i64 2)], .agg [.lit (.int .i64 2), .lit (.int .i64 1), .lit (.int .i64 2)], .agg [.lit (.int .i64 2), .lit (.int .i64 1), .lit (.int .i64 2)], .agg [.lit (.int .i64 2), .lit (.int .i64 1), .lit (.int .i64 2)], .agg [.lit (.int .i64 2), .lit (.int .i64 1), .lit (.int .i64 2)], .agg [.lit (.int .i64 2), .lit (.int .i64 2), .lit (.int .i64 2)], .agg [.lit (.int .i64 2), .lit (.int .i64 2), .lit (.int .i64 2)], .agg [.lit (.int .i64 2), .lit (.int .i64 2), .lit (.int .i64 2)]]

/-- 'matchguardlaw07.SyntaxParses': WHATEVER THE INPUT: true; the input reads as it did. -/
def syntaxParsesSpec : ChangeSpec := { name := "syntaxParses", fn := fun _ => fun
  | [d1, d2, d3, d4, d5] => { results := [.lit (.bool true)], args := [d1, d2, d3, d4, d5] }
  | _ => none }
def syntaxParsesRow : OpenClaim := { program := "ytmdifoclojogpaadoor", sum := "13a020efede8b2afb3cd9e8e66e9bd0ab9248ebae7b0724c12acd0c69a4b1260", func := "matchguard/matchguardlaw07.SyntaxParses", spec := "syntaxParses", unfollowed := true, recurses := true, named := ["matchguard/lexer.symbols", "matchguard/syntax.symbols"], plainKeys := false, apart := false, laid := [("matchguard/lexer.symbols", laid_matchguard_lexer_symbols), ("matchguard/syntax.symbols", laid_matchguard_syntax_symbols)] }
def SyntaxParsesSaid : Prop := syntaxParsesRow.holds Tryd.pinned (OpenSpec.ofChange syntaxParsesSpec)

/-- ITS FALSE NEIGHBOUR: 'it returns false'. Refute it at one input. -/
def syntaxParsesWrong : ChangeSpec := { name := "syntaxParses", fn := fun _ => fun
  | [d1, d2, d3, d4, d5] => { results := [.lit (.bool false)], args := [d1, d2, d3, d4, d5] }
  | _ => none }
def SyntaxParsesWrongFalsely : Prop := syntaxParsesRow.holds Tryd.pinned (OpenSpec.ofChange syntaxParsesWrong)

/-- 'matchguardlaw07.SyntaxParentheses': WHATEVER THE INPUT: true; the input reads as it did. -/
def syntaxParenthesesSpec : ChangeSpec := { name := "syntaxParentheses", fn := fun _ => fun
  | [d1, d2] => { results := [.lit (.bool true)], args := [d1, d2] }
  | _ => none }
def syntaxParenthesesRow : OpenClaim := { program := "ytmdifoclojogpaadoor", sum := "13a020efede8b2afb3cd9e8e66e9bd0ab9248ebae7b0724c12acd0c69a4b1260", func := "matchguard/matchguardlaw07.SyntaxParentheses", spec := "syntaxParentheses", unfollowed := true, recurses := true, named := ["matchguard/lexer.symbols", "matchguard/syntax.symbols"], plainKeys := false, apart := false, laid := [("matchguard/lexer.symbols", laid_matchguard_lexer_symbols), ("matchguard/syntax.symbols", laid_matchguard_syntax_symbols)] }
def SyntaxParenthesesSaid : Prop := syntaxParenthesesRow.holds Tryd.pinned (OpenSpec.ofChange syntaxParenthesesSpec)

/-- ITS FALSE NEIGHBOUR: 'it returns false'. Refute it at one input. -/
def syntaxParenthesesWrong : ChangeSpec := { name := "syntaxParentheses", fn := fun _ => fun
  | [d1, d2] => { results := [.lit (.bool false)], args := [d1, d2] }
  | _ => none }
def SyntaxParenthesesWrongFalsely : Prop := syntaxParenthesesRow.holds Tryd.pinned (OpenSpec.ofChange syntaxParenthesesWrong)

/-- 'matchguardlaw07.SyntaxLimits': WHATEVER THE INPUT: true; the input reads as it did. -/
def syntaxLimitsSpec : ChangeSpec := { name := "syntaxLimits", fn := fun _ => fun
  | [d] => { results := [.lit (.bool true)], args := [d] }
  | _ => none }
def syntaxLimitsRow : OpenClaim := { program := "ytmdifoclojogpaadoor", sum := "13a020efede8b2afb3cd9e8e66e9bd0ab9248ebae7b0724c12acd0c69a4b1260", func := "matchguard/matchguardlaw07.SyntaxLimits", spec := "syntaxLimits", unfollowed := true, recurses := true, named := ["matchguard/lexer.symbols", "matchguard/syntax.symbols"], plainKeys := false, apart := false, laid := [("matchguard/lexer.symbols", laid_matchguard_lexer_symbols), ("matchguard/syntax.symbols", laid_matchguard_syntax_symbols)] }
def SyntaxLimitsSaid : Prop := syntaxLimitsRow.holds Tryd.pinned (OpenSpec.ofChange syntaxLimitsSpec)

/-- ITS FALSE NEIGHBOUR: 'it returns false'. Refute it at one input. -/
def syntaxLimitsWrong : ChangeSpec := { name := "syntaxLimits", fn := fun _ => fun
  | [d] => { results := [.lit (.bool false)], args := [d] }
  | _ => none }
def SyntaxLimitsWrongFalsely : Prop := syntaxLimitsRow.holds Tryd.pinned (OpenSpec.ofChange syntaxLimitsWrong)

/-- 'matchguardlaw07.SyntaxSame': WHATEVER THE INPUT: true; the input reads as it did. -/
def syntaxSameSpec : ChangeSpec := { name := "syntaxSame", fn := fun _ => fun
  | [d1, d2, d3, d4] => { results := [.lit (.bool true)], args := [d1, d2, d3, d4] }
  | _ => none }
def syntaxSameRow : OpenClaim := { program := "ytmdifoclojogpaadoor", sum := "13a020efede8b2afb3cd9e8e66e9bd0ab9248ebae7b0724c12acd0c69a4b1260", func := "matchguard/matchguardlaw07.SyntaxSame", spec := "syntaxSame", unfollowed := true, recurses := true, named := ["matchguard/lexer.symbols", "matchguard/syntax.symbols"], plainKeys := false, apart := false, laid := [("matchguard/lexer.symbols", laid_matchguard_lexer_symbols), ("matchguard/syntax.symbols", laid_matchguard_syntax_symbols)] }
def SyntaxSameSaid : Prop := syntaxSameRow.holds Tryd.pinned (OpenSpec.ofChange syntaxSameSpec)

/-- ITS FALSE NEIGHBOUR: 'it returns false'. Refute it at one input. -/
def syntaxSameWrong : ChangeSpec := { name := "syntaxSame", fn := fun _ => fun
  | [d1, d2, d3, d4] => { results := [.lit (.bool false)], args := [d1, d2, d3, d4] }
  | _ => none }
def SyntaxSameWrongFalsely : Prop := syntaxSameRow.holds Tryd.pinned (OpenSpec.ofChange syntaxSameWrong)

/-- 'matchguardlaw08.TypesVars': WHATEVER THE INPUT: true; the input reads as it did. -/
def typesVarsSpec : ChangeSpec := { name := "typesVars", fn := fun _ => fun
  | [d1, d2, d3] => { results := [.lit (.bool true)], args := [d1, d2, d3] }
  | _ => none }
def typesVarsRow : OpenClaim := { program := "ytmdifoclojogpaadoor", sum := "13a020efede8b2afb3cd9e8e66e9bd0ab9248ebae7b0724c12acd0c69a4b1260", func := "matchguard/matchguardlaw08.TypesVars", spec := "typesVars", unfollowed := true, recurses := true, named := ["matchguard/lexer.symbols", "matchguard/syntax.symbols", "matchguard/types.operators"], plainKeys := false, apart := false, laid := [("matchguard/lexer.symbols", laid_matchguard_lexer_symbols), ("matchguard/syntax.symbols", laid_matchguard_syntax_symbols), ("matchguard/types.operators", laid_matchguard_types_operators)] }
def TypesVarsSaid : Prop := typesVarsRow.holds Tryd.pinned (OpenSpec.ofChange typesVarsSpec)

/-- ITS FALSE NEIGHBOUR: 'it returns false'. Refute it at one input. -/
def typesVarsWrong : ChangeSpec := { name := "typesVars", fn := fun _ => fun
  | [d1, d2, d3] => { results := [.lit (.bool false)], args := [d1, d2, d3] }
  | _ => none }
def TypesVarsWrongFalsely : Prop := typesVarsRow.holds Tryd.pinned (OpenSpec.ofChange typesVarsWrong)

/-- 'matchguardlaw08.TypesOrder': WHATEVER THE INPUT: true; the input reads as it did. -/
def typesOrderSpec : ChangeSpec := { name := "typesOrder", fn := fun _ => fun
  | [d1, d2, d3] => { results := [.lit (.bool true)], args := [d1, d2, d3] }
  | _ => none }
def typesOrderRow : OpenClaim := { program := "ytmdifoclojogpaadoor", sum := "13a020efede8b2afb3cd9e8e66e9bd0ab9248ebae7b0724c12acd0c69a4b1260", func := "matchguard/matchguardlaw08.TypesOrder", spec := "typesOrder", unfollowed := true, recurses := true, named := ["matchguard/lexer.symbols", "matchguard/syntax.symbols", "matchguard/types.operators"], plainKeys := false, apart := false, laid := [("matchguard/lexer.symbols", laid_matchguard_lexer_symbols), ("matchguard/syntax.symbols", laid_matchguard_syntax_symbols), ("matchguard/types.operators", laid_matchguard_types_operators)] }
def TypesOrderSaid : Prop := typesOrderRow.holds Tryd.pinned (OpenSpec.ofChange typesOrderSpec)

/-- ITS FALSE NEIGHBOUR: 'it returns false'. Refute it at one input. -/
def typesOrderWrong : ChangeSpec := { name := "typesOrder", fn := fun _ => fun
  | [d1, d2, d3] => { results := [.lit (.bool false)], args := [d1, d2, d3] }
  | _ => none }
def TypesOrderWrongFalsely : Prop := typesOrderRow.holds Tryd.pinned (OpenSpec.ofChange typesOrderWrong)

/- THE SECOND FORM. 'bulk': how many values and letters a reading holds, each counted each time it is reached (what is shared counts as often as it is met; a slice's spare places count too). A statement '..UptoSaid' is the law's where the arguments, and the package variables that the reading takes, are together of bulk at most 1048576: NARROWER than '..Said'. Prove '..Said' where nothing that the law and all that it calls make is longer than what came in: it says more and counts as full. Else prove '..UptoSaid'. A law counts once. -/
mutual
def uptoBulk {H : Type} : DataW H → Nat
  | .lit (.string bytes) => bytes.length + 1
  | .lit _ => 1
  | .nil => 1
  | .ptr d => uptoBulk d + 1
  | .slice elems spare => uptoBulkAll elems + uptoBulkAll spare + 1
  | .agg parts => uptoBulkAll parts + 1
  | .iface _ d => uptoBulk d + 1
  | .map entries => uptoBulkEntries entries + 1
  | .held _ => 1
def uptoBulkAll {H : Type} : List (DataW H) → Nat
  | [] => 0
  | d :: r => uptoBulk d + uptoBulkAll r
def uptoBulkEntries {H : Type} : List (Lit × DataW H) → Nat
  | [] => 0
  | x :: r => uptoBulkEntry x + uptoBulkEntries r
def uptoBulkEntry {H : Type} : Lit × DataW H → Nat
  | (.string bytes, d) => bytes.length + uptoBulk d + 1
  | (_, d) => uptoBulk d + 1
 end
def uptoSmall : (H : Type) → List (DataW H) → Bool := fun _ ds => decide (uptoBulkAll ds ≤ 1048576)
def OpenSpec.upto (s : _root_.Go.ChangeSpec) : _root_.Go.OpenSpec := { _root_.Go.OpenSpec.ofChange s with cond := some uptoSmall }

/-- 'matchguardlaw07.SyntaxParses', WHERE WHAT IT READS IS OF BULK AT MOST 1048576: true; the input reads as it did. -/
def syntaxParsesUptoRow : OpenClaim := { program := "ytmdifoclojogpaadoor", sum := "13a020efede8b2afb3cd9e8e66e9bd0ab9248ebae7b0724c12acd0c69a4b1260", func := "matchguard/matchguardlaw07.SyntaxParses", spec := "syntaxParses", unfollowed := true, recurses := true, named := ["matchguard/lexer.symbols", "matchguard/syntax.symbols"], plainKeys := false, apart := false, laid := [("matchguard/lexer.symbols", laid_matchguard_lexer_symbols), ("matchguard/syntax.symbols", laid_matchguard_syntax_symbols)], narrowed := true }
def SyntaxParsesUptoSaid : Prop := syntaxParsesUptoRow.holds Tryd.pinned (OpenSpec.upto syntaxParsesSpec)

/-- 'matchguardlaw07.SyntaxParentheses', WHERE WHAT IT READS IS OF BULK AT MOST 1048576: true; the input reads as it did. -/
def syntaxParenthesesUptoRow : OpenClaim := { program := "ytmdifoclojogpaadoor", sum := "13a020efede8b2afb3cd9e8e66e9bd0ab9248ebae7b0724c12acd0c69a4b1260", func := "matchguard/matchguardlaw07.SyntaxParentheses", spec := "syntaxParentheses", unfollowed := true, recurses := true, named := ["matchguard/lexer.symbols", "matchguard/syntax.symbols"], plainKeys := false, apart := false, laid := [("matchguard/lexer.symbols", laid_matchguard_lexer_symbols), ("matchguard/syntax.symbols", laid_matchguard_syntax_symbols)], narrowed := true }
def SyntaxParenthesesUptoSaid : Prop := syntaxParenthesesUptoRow.holds Tryd.pinned (OpenSpec.upto syntaxParenthesesSpec)

/-- 'matchguardlaw07.SyntaxLimits', WHERE WHAT IT READS IS OF BULK AT MOST 1048576: true; the input reads as it did. -/
def syntaxLimitsUptoRow : OpenClaim := { program := "ytmdifoclojogpaadoor", sum := "13a020efede8b2afb3cd9e8e66e9bd0ab9248ebae7b0724c12acd0c69a4b1260", func := "matchguard/matchguardlaw07.SyntaxLimits", spec := "syntaxLimits", unfollowed := true, recurses := true, named := ["matchguard/lexer.symbols", "matchguard/syntax.symbols"], plainKeys := false, apart := false, laid := [("matchguard/lexer.symbols", laid_matchguard_lexer_symbols), ("matchguard/syntax.symbols", laid_matchguard_syntax_symbols)], narrowed := true }
def SyntaxLimitsUptoSaid : Prop := syntaxLimitsUptoRow.holds Tryd.pinned (OpenSpec.upto syntaxLimitsSpec)

/-- 'matchguardlaw07.SyntaxSame', WHERE WHAT IT READS IS OF BULK AT MOST 1048576: true; the input reads as it did. -/
def syntaxSameUptoRow : OpenClaim := { program := "ytmdifoclojogpaadoor", sum := "13a020efede8b2afb3cd9e8e66e9bd0ab9248ebae7b0724c12acd0c69a4b1260", func := "matchguard/matchguardlaw07.SyntaxSame", spec := "syntaxSame", unfollowed := true, recurses := true, named := ["matchguard/lexer.symbols", "matchguard/syntax.symbols"], plainKeys := false, apart := false, laid := [("matchguard/lexer.symbols", laid_matchguard_lexer_symbols), ("matchguard/syntax.symbols", laid_matchguard_syntax_symbols)], narrowed := true }
def SyntaxSameUptoSaid : Prop := syntaxSameUptoRow.holds Tryd.pinned (OpenSpec.upto syntaxSameSpec)

/-- 'matchguardlaw08.TypesVars', WHERE WHAT IT READS IS OF BULK AT MOST 1048576: true; the input reads as it did. -/
def typesVarsUptoRow : OpenClaim := { program := "ytmdifoclojogpaadoor", sum := "13a020efede8b2afb3cd9e8e66e9bd0ab9248ebae7b0724c12acd0c69a4b1260", func := "matchguard/matchguardlaw08.TypesVars", spec := "typesVars", unfollowed := true, recurses := true, named := ["matchguard/lexer.symbols", "matchguard/syntax.symbols", "matchguard/types.operators"], plainKeys := false, apart := false, laid := [("matchguard/lexer.symbols", laid_matchguard_lexer_symbols), ("matchguard/syntax.symbols", laid_matchguard_syntax_symbols), ("matchguard/types.operators", laid_matchguard_types_operators)], narrowed := true }
def TypesVarsUptoSaid : Prop := typesVarsUptoRow.holds Tryd.pinned (OpenSpec.upto typesVarsSpec)

/-- 'matchguardlaw08.TypesOrder', WHERE WHAT IT READS IS OF BULK AT MOST 1048576: true; the input reads as it did. -/
def typesOrderUptoRow : OpenClaim := { program := "ytmdifoclojogpaadoor", sum := "13a020efede8b2afb3cd9e8e66e9bd0ab9248ebae7b0724c12acd0c69a4b1260", func := "matchguard/matchguardlaw08.TypesOrder", spec := "typesOrder", unfollowed := true, recurses := true, named := ["matchguard/lexer.symbols", "matchguard/syntax.symbols", "matchguard/types.operators"], plainKeys := false, apart := false, laid := [("matchguard/lexer.symbols", laid_matchguard_lexer_symbols), ("matchguard/syntax.symbols", laid_matchguard_syntax_symbols), ("matchguard/types.operators", laid_matchguard_types_operators)], narrowed := true }
def TypesOrderUptoSaid : Prop := typesOrderUptoRow.holds Tryd.pinned (OpenSpec.upto typesOrderSpec)

end Rows
end Go.Proofs.YtmdifoclojogpaaDoor
