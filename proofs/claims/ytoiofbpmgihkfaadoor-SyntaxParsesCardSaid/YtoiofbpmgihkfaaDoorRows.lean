/-
  NARROWER THAN 'FOR EVERY INPUT', by the rows' own cells (each row's printed sentence says how): LexerScans: laid · LexerPlaces: laid · LexerJoins: laid · LexerLimits: laid · SyntaxParses: laid · SyntaxParentheses: laid · SyntaxLimits: laid · SyntaxSame: laid.
  DERIVED. THE GIVEN ROWS OF THIS SEAT. 8 by the template 'for every input the law returns true; each argument reads behind the call as it read before'; 0 by the template 'total and deterministic' (their statements: YtoiofbpmgihkfaaDoorTotals.lean).
  GIVEN WITH THE SEED: the statements are not yours to turn. If you find one false, say at which input.
  Laid BY PROGRAM, IN A SANDBOX (cutbox-rows.mjs): the forced cells as the released guide's own fill.sh prints them over the translation 93600e3bd591e932… (all of the seat's roots in one cut). By AI agents, Wed Nov 11 2026. No macro, syntax, notation, axiom, sorry.
-/
import Derived.Test.YtoiofbpmgihkfaaDoorChecked
import GoSem.Claim
import GoSem.ClaimJoined
import GoSem.ClaimMapViews
import Derived.JoinedTies
import Derived.KernelRfl
namespace Go.Proofs.YtoiofbpmgihkfaaDoor
/- THE CELL 'sum', in the pinned program and in every row, IS THE sha256 OF THE DUMP (.gsa) THAT YtoiofbpmgihkfaaDoorProg.lean LOADS. Nothing in Lean hashes anything: it is a label: what it is worth is what the hold of that sum in a sandbox is worth. -/
noncomputable def Tryd.pinned : Pinned := { name := "ytoiofbpmgihkfaadoor", sum := "93600e3bd591e9329b77d9ef90a531d067315fa2b0da11f4ca5b68523057dac2", checked := Tryd.checked }
namespace Rows
def none {H : Type} : Left H := { results := [], args := [] }

/- WHAT THE LISTED PACKAGE-LEVEL VARIABLES READ AS WHEN THE CALL BEGINS. Each datum BY PROGRAM (the guide's laid-datum.mjs) off the statement by which the dump's own 'gosem.cut.vars' lays the variable. In a bare row this is a premise. The card (YtoiofbpmgihkfaaDoorCards.lean) ties it to the program's text. -/
def laid_matchguard_lexer_symbols {H : Type} : DataW H := .agg [.lit (.string [38, 38]), .lit (.string [124, 124]), .lit (.string [45, 62]), .lit (.string [61, 61]), .lit (.string [33, 61]), .lit (.string [60, 61]), .lit (.string [62, 61]), .lit (.string [58, 58]), .lit (.string [40]), .lit (.string [41]), .lit (.string [33]), .lit (.string [60]), .lit (.string [62]), .lit (.string [43]), .lit (.string [45])]
def laid_matchguard_syntax_symbols {H : Type} : DataW H := .agg [.lit (.string []), .lit (.string []), .lit (.string []), .lit (.string []), .lit (.string [45]), .lit (.string [33]), .lit (.string [43]), .lit (.string [45]), .lit (.string [61, 61]), .lit (.string [33, 61]), .lit (.string [60]), .lit (.string [60, 61]), .lit (.string [62]), .lit (.string [62, 61]), .lit (.string [38, 38]), .lit (.string [124, 124]), .lit (.string [45, 62])]

/-- 'matchguardlaw06.LexerScans': WHATEVER THE INPUT: true; the input reads as it did. -/
def lexerScansSpec : ChangeSpec := { name := "lexerScans", fn := fun _ => fun
  | [d1, d2, d3, d4] => { results := [.lit (.bool true)], args := [d1, d2, d3, d4] }
  | _ => none }
def lexerScansRow : OpenClaim := { program := "ytoiofbpmgihkfaadoor", sum := "93600e3bd591e9329b77d9ef90a531d067315fa2b0da11f4ca5b68523057dac2", func := "matchguard/matchguardlaw06.LexerScans", spec := "lexerScans", named := ["matchguard/lexer.symbols"], apart := false, laid := [("matchguard/lexer.symbols", laid_matchguard_lexer_symbols)] }
def LexerScansSaid : Prop := lexerScansRow.holds Tryd.pinned (OpenSpec.ofChange lexerScansSpec)

/-- ITS FALSE NEIGHBOUR: 'it returns false'. Refute it at one input. -/
def lexerScansWrong : ChangeSpec := { name := "lexerScans", fn := fun _ => fun
  | [d1, d2, d3, d4] => { results := [.lit (.bool false)], args := [d1, d2, d3, d4] }
  | _ => none }
def LexerScansWrongFalsely : Prop := lexerScansRow.holds Tryd.pinned (OpenSpec.ofChange lexerScansWrong)

/-- 'matchguardlaw06.LexerPlaces': WHATEVER THE INPUT: true; the input reads as it did. -/
def lexerPlacesSpec : ChangeSpec := { name := "lexerPlaces", fn := fun _ => fun
  | [d] => { results := [.lit (.bool true)], args := [d] }
  | _ => none }
def lexerPlacesRow : OpenClaim := { program := "ytoiofbpmgihkfaadoor", sum := "93600e3bd591e9329b77d9ef90a531d067315fa2b0da11f4ca5b68523057dac2", func := "matchguard/matchguardlaw06.LexerPlaces", spec := "lexerPlaces", named := ["matchguard/lexer.symbols"], apart := false, laid := [("matchguard/lexer.symbols", laid_matchguard_lexer_symbols)] }
def LexerPlacesSaid : Prop := lexerPlacesRow.holds Tryd.pinned (OpenSpec.ofChange lexerPlacesSpec)

/-- ITS FALSE NEIGHBOUR: 'it returns false'. Refute it at one input. -/
def lexerPlacesWrong : ChangeSpec := { name := "lexerPlaces", fn := fun _ => fun
  | [d] => { results := [.lit (.bool false)], args := [d] }
  | _ => none }
def LexerPlacesWrongFalsely : Prop := lexerPlacesRow.holds Tryd.pinned (OpenSpec.ofChange lexerPlacesWrong)

/-- 'matchguardlaw06.LexerJoins': WHATEVER THE INPUT: true; the input reads as it did. -/
def lexerJoinsSpec : ChangeSpec := { name := "lexerJoins", fn := fun _ => fun
  | [d] => { results := [.lit (.bool true)], args := [d] }
  | _ => none }
def lexerJoinsRow : OpenClaim := { program := "ytoiofbpmgihkfaadoor", sum := "93600e3bd591e9329b77d9ef90a531d067315fa2b0da11f4ca5b68523057dac2", func := "matchguard/matchguardlaw06.LexerJoins", spec := "lexerJoins", inPlace := ["internal/abi.NoEscape"], named := ["matchguard/lexer.symbols"], apart := false, laid := [("matchguard/lexer.symbols", laid_matchguard_lexer_symbols)] }
def LexerJoinsSaid : Prop := lexerJoinsRow.holds Tryd.pinned (OpenSpec.ofChange lexerJoinsSpec)

/-- ITS FALSE NEIGHBOUR: 'it returns false'. Refute it at one input. -/
def lexerJoinsWrong : ChangeSpec := { name := "lexerJoins", fn := fun _ => fun
  | [d] => { results := [.lit (.bool false)], args := [d] }
  | _ => none }
def LexerJoinsWrongFalsely : Prop := lexerJoinsRow.holds Tryd.pinned (OpenSpec.ofChange lexerJoinsWrong)

/-- 'matchguardlaw06.LexerLimits': WHATEVER THE INPUT: true; the input reads as it did. -/
def lexerLimitsSpec : ChangeSpec := { name := "lexerLimits", fn := fun _ => fun
  | [d] => { results := [.lit (.bool true)], args := [d] }
  | _ => none }
def lexerLimitsRow : OpenClaim := { program := "ytoiofbpmgihkfaadoor", sum := "93600e3bd591e9329b77d9ef90a531d067315fa2b0da11f4ca5b68523057dac2", func := "matchguard/matchguardlaw06.LexerLimits", spec := "lexerLimits", named := ["matchguard/lexer.symbols"], apart := false, laid := [("matchguard/lexer.symbols", laid_matchguard_lexer_symbols)] }
def LexerLimitsSaid : Prop := lexerLimitsRow.holds Tryd.pinned (OpenSpec.ofChange lexerLimitsSpec)

/-- ITS FALSE NEIGHBOUR: 'it returns false'. Refute it at one input. -/
def lexerLimitsWrong : ChangeSpec := { name := "lexerLimits", fn := fun _ => fun
  | [d] => { results := [.lit (.bool false)], args := [d] }
  | _ => none }
def LexerLimitsWrongFalsely : Prop := lexerLimitsRow.holds Tryd.pinned (OpenSpec.ofChange lexerLimitsWrong)

/-- 'matchguardlaw07.SyntaxParses': WHATEVER THE INPUT: true; the input reads as it did. -/
def syntaxParsesSpec : ChangeSpec := { name := "syntaxParses", fn := fun _ => fun
  | [d1, d2, d3, d4, d5] => { results := [.lit (.bool true)], args := [d1, d2, d3, d4, d5] }
  | _ => none }
def syntaxParsesRow : OpenClaim := { program := "ytoiofbpmgihkfaadoor", sum := "93600e3bd591e9329b77d9ef90a531d067315fa2b0da11f4ca5b68523057dac2", func := "matchguard/matchguardlaw07.SyntaxParses", spec := "syntaxParses", unfollowed := true, recurses := true, named := ["matchguard/lexer.symbols", "matchguard/syntax.symbols"], apart := false, laid := [("matchguard/lexer.symbols", laid_matchguard_lexer_symbols), ("matchguard/syntax.symbols", laid_matchguard_syntax_symbols)] }
def SyntaxParsesSaid : Prop := syntaxParsesRow.holds Tryd.pinned (OpenSpec.ofChange syntaxParsesSpec)

/-- ITS FALSE NEIGHBOUR: 'it returns false'. Refute it at one input. -/
def syntaxParsesWrong : ChangeSpec := { name := "syntaxParses", fn := fun _ => fun
  | [d1, d2, d3, d4, d5] => { results := [.lit (.bool false)], args := [d1, d2, d3, d4, d5] }
  | _ => none }
def SyntaxParsesWrongFalsely : Prop := syntaxParsesRow.holds Tryd.pinned (OpenSpec.ofChange syntaxParsesWrong)

/-- 'matchguardlaw07.SyntaxParentheses': WHATEVER THE INPUT: true; the input reads as it did. -/
def syntaxParenthesesSpec : ChangeSpec := { name := "syntaxParentheses", fn := fun _ => fun
  | [d1, d2] => { results := [.lit (.bool true)], args := [d1, d2] }
  | _ => none }
def syntaxParenthesesRow : OpenClaim := { program := "ytoiofbpmgihkfaadoor", sum := "93600e3bd591e9329b77d9ef90a531d067315fa2b0da11f4ca5b68523057dac2", func := "matchguard/matchguardlaw07.SyntaxParentheses", spec := "syntaxParentheses", unfollowed := true, recurses := true, named := ["matchguard/lexer.symbols", "matchguard/syntax.symbols"], apart := false, laid := [("matchguard/lexer.symbols", laid_matchguard_lexer_symbols), ("matchguard/syntax.symbols", laid_matchguard_syntax_symbols)] }
def SyntaxParenthesesSaid : Prop := syntaxParenthesesRow.holds Tryd.pinned (OpenSpec.ofChange syntaxParenthesesSpec)

/-- ITS FALSE NEIGHBOUR: 'it returns false'. Refute it at one input. -/
def syntaxParenthesesWrong : ChangeSpec := { name := "syntaxParentheses", fn := fun _ => fun
  | [d1, d2] => { results := [.lit (.bool false)], args := [d1, d2] }
  | _ => none }
def SyntaxParenthesesWrongFalsely : Prop := syntaxParenthesesRow.holds Tryd.pinned (OpenSpec.ofChange syntaxParenthesesWrong)

/-- 'matchguardlaw07.SyntaxLimits': WHATEVER THE INPUT: true; the input reads as it did. -/
def syntaxLimitsSpec : ChangeSpec := { name := "syntaxLimits", fn := fun _ => fun
  | [d] => { results := [.lit (.bool true)], args := [d] }
  | _ => none }
def syntaxLimitsRow : OpenClaim := { program := "ytoiofbpmgihkfaadoor", sum := "93600e3bd591e9329b77d9ef90a531d067315fa2b0da11f4ca5b68523057dac2", func := "matchguard/matchguardlaw07.SyntaxLimits", spec := "syntaxLimits", unfollowed := true, recurses := true, named := ["matchguard/lexer.symbols", "matchguard/syntax.symbols"], apart := false, laid := [("matchguard/lexer.symbols", laid_matchguard_lexer_symbols), ("matchguard/syntax.symbols", laid_matchguard_syntax_symbols)] }
def SyntaxLimitsSaid : Prop := syntaxLimitsRow.holds Tryd.pinned (OpenSpec.ofChange syntaxLimitsSpec)

/-- ITS FALSE NEIGHBOUR: 'it returns false'. Refute it at one input. -/
def syntaxLimitsWrong : ChangeSpec := { name := "syntaxLimits", fn := fun _ => fun
  | [d] => { results := [.lit (.bool false)], args := [d] }
  | _ => none }
def SyntaxLimitsWrongFalsely : Prop := syntaxLimitsRow.holds Tryd.pinned (OpenSpec.ofChange syntaxLimitsWrong)

/-- 'matchguardlaw07.SyntaxSame': WHATEVER THE INPUT: true; the input reads as it did. -/
def syntaxSameSpec : ChangeSpec := { name := "syntaxSame", fn := fun _ => fun
  | [d1, d2, d3, d4] => { results := [.lit (.bool true)], args := [d1, d2, d3, d4] }
  | _ => none }
def syntaxSameRow : OpenClaim := { program := "ytoiofbpmgihkfaadoor", sum := "93600e3bd591e9329b77d9ef90a531d067315fa2b0da11f4ca5b68523057dac2", func := "matchguard/matchguardlaw07.SyntaxSame", spec := "syntaxSame", unfollowed := true, recurses := true, named := ["matchguard/lexer.symbols", "matchguard/syntax.symbols"], apart := false, laid := [("matchguard/lexer.symbols", laid_matchguard_lexer_symbols), ("matchguard/syntax.symbols", laid_matchguard_syntax_symbols)] }
def SyntaxSameSaid : Prop := syntaxSameRow.holds Tryd.pinned (OpenSpec.ofChange syntaxSameSpec)

/-- ITS FALSE NEIGHBOUR: 'it returns false'. Refute it at one input. -/
def syntaxSameWrong : ChangeSpec := { name := "syntaxSame", fn := fun _ => fun
  | [d1, d2, d3, d4] => { results := [.lit (.bool false)], args := [d1, d2, d3, d4] }
  | _ => none }
def SyntaxSameWrongFalsely : Prop := syntaxSameRow.holds Tryd.pinned (OpenSpec.ofChange syntaxSameWrong)

/- THE SECOND FORM. 'bulk': how many values and letters a reading holds, each counted each time it is reached (what is shared counts as often as it is met; a slice's spare places count too). A statement '..UptoSaid' is the law's where the arguments, and the package variables that the reading takes, are together of bulk at most 1048576: NARROWER than '..Said'. Prove '..Said' where nothing that the law and all that it calls make is longer than what came in: it says more and counts as full. Else prove '..UptoSaid'. A law counts once. -/
mutual
def uptoBulk {H : Type} : DataW H → Nat
  | .lit (.string bytes) => bytes.length + 1
  | .lit _ => 1
  | .nil => 1
  | .ptr d => uptoBulk d + 1
  | .slice elems spare => uptoBulkAll elems + uptoBulkAll spare + 1
  | .agg parts => uptoBulkAll parts + 1
  | .iface _ d => uptoBulk d + 1
  | .map entries => uptoBulkEntries entries + 1
  | .held _ => 1
def uptoBulkAll {H : Type} : List (DataW H) → Nat
  | [] => 0
  | d :: r => uptoBulk d + uptoBulkAll r
def uptoBulkEntries {H : Type} : List (Lit × DataW H) → Nat
  | [] => 0
  | x :: r => uptoBulkEntry x + uptoBulkEntries r
def uptoBulkEntry {H : Type} : Lit × DataW H → Nat
  | (.string bytes, d) => bytes.length + uptoBulk d + 1
  | (_, d) => uptoBulk d + 1
 end
def uptoSmall : (H : Type) → List (DataW H) → Bool := fun _ ds => decide (uptoBulkAll ds ≤ 1048576)
def OpenSpec.upto (s : _root_.Go.ChangeSpec) : _root_.Go.OpenSpec := { _root_.Go.OpenSpec.ofChange s with cond := some uptoSmall }

/-- 'matchguardlaw06.LexerScans', WHERE WHAT IT READS IS OF BULK AT MOST 1048576: true; the input reads as it did. -/
def lexerScansUptoRow : OpenClaim := { program := "ytoiofbpmgihkfaadoor", sum := "93600e3bd591e9329b77d9ef90a531d067315fa2b0da11f4ca5b68523057dac2", func := "matchguard/matchguardlaw06.LexerScans", spec := "lexerScans", named := ["matchguard/lexer.symbols"], apart := false, laid := [("matchguard/lexer.symbols", laid_matchguard_lexer_symbols)], narrowed := true }
def LexerScansUptoSaid : Prop := lexerScansUptoRow.holds Tryd.pinned (OpenSpec.upto lexerScansSpec)

/-- 'matchguardlaw06.LexerPlaces', WHERE WHAT IT READS IS OF BULK AT MOST 1048576: true; the input reads as it did. -/
def lexerPlacesUptoRow : OpenClaim := { program := "ytoiofbpmgihkfaadoor", sum := "93600e3bd591e9329b77d9ef90a531d067315fa2b0da11f4ca5b68523057dac2", func := "matchguard/matchguardlaw06.LexerPlaces", spec := "lexerPlaces", named := ["matchguard/lexer.symbols"], apart := false, laid := [("matchguard/lexer.symbols", laid_matchguard_lexer_symbols)], narrowed := true }
def LexerPlacesUptoSaid : Prop := lexerPlacesUptoRow.holds Tryd.pinned (OpenSpec.upto lexerPlacesSpec)

/-- 'matchguardlaw06.LexerJoins', WHERE WHAT IT READS IS OF BULK AT MOST 1048576: true; the input reads as it did. -/
def lexerJoinsUptoRow : OpenClaim := { program := "ytoiofbpmgihkfaadoor", sum := "93600e3bd591e9329b77d9ef90a531d067315fa2b0da11f4ca5b68523057dac2", func := "matchguard/matchguardlaw06.LexerJoins", spec := "lexerJoins", inPlace := ["internal/abi.NoEscape"], named := ["matchguard/lexer.symbols"], apart := false, laid := [("matchguard/lexer.symbols", laid_matchguard_lexer_symbols)], narrowed := true }
def LexerJoinsUptoSaid : Prop := lexerJoinsUptoRow.holds Tryd.pinned (OpenSpec.upto lexerJoinsSpec)

/-- 'matchguardlaw06.LexerLimits', WHERE WHAT IT READS IS OF BULK AT MOST 1048576: true; the input reads as it did. -/
def lexerLimitsUptoRow : OpenClaim := { program := "ytoiofbpmgihkfaadoor", sum := "93600e3bd591e9329b77d9ef90a531d067315fa2b0da11f4ca5b68523057dac2", func := "matchguard/matchguardlaw06.LexerLimits", spec := "lexerLimits", named := ["matchguard/lexer.symbols"], apart := false, laid := [("matchguard/lexer.symbols", laid_matchguard_lexer_symbols)], narrowed := true }
def LexerLimitsUptoSaid : Prop := lexerLimitsUptoRow.holds Tryd.pinned (OpenSpec.upto lexerLimitsSpec)

/-- 'matchguardlaw07.SyntaxParses', WHERE WHAT IT READS IS OF BULK AT MOST 1048576: true; the input reads as it did. -/
def syntaxParsesUptoRow : OpenClaim := { program := "ytoiofbpmgihkfaadoor", sum := "93600e3bd591e9329b77d9ef90a531d067315fa2b0da11f4ca5b68523057dac2", func := "matchguard/matchguardlaw07.SyntaxParses", spec := "syntaxParses", unfollowed := true, recurses := true, named := ["matchguard/lexer.symbols", "matchguard/syntax.symbols"], apart := false, laid := [("matchguard/lexer.symbols", laid_matchguard_lexer_symbols), ("matchguard/syntax.symbols", laid_matchguard_syntax_symbols)], narrowed := true }
def SyntaxParsesUptoSaid : Prop := syntaxParsesUptoRow.holds Tryd.pinned (OpenSpec.upto syntaxParsesSpec)

/-- 'matchguardlaw07.SyntaxParentheses', WHERE WHAT IT READS IS OF BULK AT MOST 1048576: true; the input reads as it did. -/
def syntaxParenthesesUptoRow : OpenClaim := { program := "ytoiofbpmgihkfaadoor", sum := "93600e3bd591e9329b77d9ef90a531d067315fa2b0da11f4ca5b68523057dac2", func := "matchguard/matchguardlaw07.SyntaxParentheses", spec := "syntaxParentheses", unfollowed := true, recurses := true, named := ["matchguard/lexer.symbols", "matchguard/syntax.symbols"], apart := false, laid := [("matchguard/lexer.symbols", laid_matchguard_lexer_symbols), ("matchguard/syntax.symbols", laid_matchguard_syntax_symbols)], narrowed := true }
def SyntaxParenthesesUptoSaid : Prop := syntaxParenthesesUptoRow.holds Tryd.pinned (OpenSpec.upto syntaxParenthesesSpec)

/-- 'matchguardlaw07.SyntaxLimits', WHERE WHAT IT READS IS OF BULK AT MOST 1048576: true; the input reads as it did. -/
def syntaxLimitsUptoRow : OpenClaim := { program := "ytoiofbpmgihkfaadoor", sum := "93600e3bd591e9329b77d9ef90a531d067315fa2b0da11f4ca5b68523057dac2", func := "matchguard/matchguardlaw07.SyntaxLimits", spec := "syntaxLimits", unfollowed := true, recurses := true, named := ["matchguard/lexer.symbols", "matchguard/syntax.symbols"], apart := false, laid := [("matchguard/lexer.symbols", laid_matchguard_lexer_symbols), ("matchguard/syntax.symbols", laid_matchguard_syntax_symbols)], narrowed := true }
def SyntaxLimitsUptoSaid : Prop := syntaxLimitsUptoRow.holds Tryd.pinned (OpenSpec.upto syntaxLimitsSpec)

/-- 'matchguardlaw07.SyntaxSame', WHERE WHAT IT READS IS OF BULK AT MOST 1048576: true; the input reads as it did. -/
def syntaxSameUptoRow : OpenClaim := { program := "ytoiofbpmgihkfaadoor", sum := "93600e3bd591e9329b77d9ef90a531d067315fa2b0da11f4ca5b68523057dac2", func := "matchguard/matchguardlaw07.SyntaxSame", spec := "syntaxSame", unfollowed := true, recurses := true, named := ["matchguard/lexer.symbols", "matchguard/syntax.symbols"], apart := false, laid := [("matchguard/lexer.symbols", laid_matchguard_lexer_symbols), ("matchguard/syntax.symbols", laid_matchguard_syntax_symbols)], narrowed := true }
def SyntaxSameUptoSaid : Prop := syntaxSameUptoRow.holds Tryd.pinned (OpenSpec.upto syntaxSameSpec)

end Rows
end Go.Proofs.YtoiofbpmgihkfaaDoor
