package syntax

import (
	"math/big"
	"slices"
	"sort"
	"strings"
	"testing"

	"matchguard/api"
	"matchguard/lexer"
)

// tree is a tree with pointers.
type tree struct {
	node Node // without indices
	a, b *tree
}

func leafOf(n Node) *tree { return &tree{node: n} }

// join returns a tree with an operation at its root; nil if an operand is missing.
func join(op int, operands ...*tree) *tree {
	t := &tree{node: Node{Op: op}, a: operands[0]}
	if len(operands) > 1 {
		t.b = operands[1]
	}
	if slices.Contains(operands, nil) {
		return nil
	}
	return t
}

// The operations of the rules with a symbol between two parts.
var (
	impliesOps = map[string]int{"->": Implies}
	orOps      = map[string]int{"||": Or}
	andOps     = map[string]int{"&&": And}
	compareOps = map[string]int{"==": Eq, "!=": Ne, "<": Less, "<=": LessEq, ">": Greater, ">=": GreaterEq}
	sumOps     = map[string]int{"+": Add, "-": Sub}
)

// isWord reports whether a token is a name or a literal.
func isWord(s string) bool { return s[0] >= '0' && s[0] <= '9' || s[0] >= 'a' && s[0] <= 'z' }

// places returns the places, outside of parentheses, of the symbols of ops that stand between two parts.
func places(l []string, ops map[string]int) []int {
	var list []int
	open := 0
	for i, s := range l {
		switch {
		case s == "(":
			open++
		case s == ")":
			open--
		case open == 0 && ops[s] != 0 && i > 0 && (l[i-1] == ")" || isWord(l[i-1])):
			list = append(list, i)
		}
	}
	return list
}

// The rules return the tree of a list of tokens, which is cut at an operator; nil if it has none.

func oracleImplies(l []string) *tree {
	if at := places(l, impliesOps); len(at) > 0 {
		return join(Implies, oracleOr(l[:at[0]]), oracleImplies(l[at[0]+1:]))
	}
	return oracleOr(l)
}

func oracleOr(l []string) *tree {
	if at := places(l, orOps); len(at) > 0 {
		i := at[len(at)-1]
		return join(Or, oracleOr(l[:i]), oracleAnd(l[i+1:]))
	}
	return oracleAnd(l)
}

func oracleAnd(l []string) *tree {
	if at := places(l, andOps); len(at) > 0 {
		i := at[len(at)-1]
		return join(And, oracleAnd(l[:i]), oracleNot(l[i+1:]))
	}
	return oracleNot(l)
}

func oracleNot(l []string) *tree {
	if len(l) > 0 && l[0] == "!" {
		return join(Not, oracleNot(l[1:]))
	}
	if at := places(l, compareOps); len(at) == 1 {
		return join(compareOps[l[at[0]]], oracleSum(l[:at[0]]), oracleSum(l[at[0]+1:]))
	}
	return oracleSum(l)
}

func oracleSum(l []string) *tree {
	if at := places(l, sumOps); len(at) > 0 {
		i := at[len(at)-1]
		return join(sumOps[l[i]], oracleSum(l[:i]), oracleUnary(l[i+1:]))
	}
	return oracleUnary(l)
}

func oracleUnary(l []string) *tree {
	if len(l) > 0 && l[0] == "-" {
		return join(Neg, oracleUnary(l[1:]))
	}
	return oracleAtom(l)
}

func oracleAtom(l []string) *tree {
	switch {
	case len(l) == 1 && isWord(l[0]):
		return oracleWord(l[0])
	case len(l) == 3 && l[1] == "::" && isName(l[0]) && isWord(l[2]) && l[2][0] >= 'a':
		return leafOf(Node{Op: Var, Name: l[0], Attr: l[2]})
	case len(l) > 2 && l[0] == "(" && l[len(l)-1] == ")":
		return oracleImplies(l[1 : len(l)-1])
	}
	return nil
}

func isName(s string) bool { return isWord(s) && s[0] >= 'a' && s != "true" && s != "false" }

func oracleWord(s string) *tree {
	switch {
	case s == "true":
		return leafOf(Node{Op: Bool, Value: api.Value{Lo: 1}})
	case s == "false":
		return leafOf(Node{Op: Bool})
	case isName(s):
		return leafOf(Node{Op: Var, Name: s})
	}
	digits, base := s, 10
	if strings.HasPrefix(s, "0x") {
		digits, base = s[2:], 16
	}
	n, _ := new(big.Int).SetString(digits, base)
	low := new(big.Int).And(n, new(big.Int).SetUint64(1<<64-1))
	return leafOf(Node{Op: Num, Value: api.Value{Hi: new(big.Int).Rsh(n, 64).Uint64(), Lo: low.Uint64()}})
}

// viable reports whether tokens are the begin of a sentence: then they are one, or an operand is missing, and some parentheses behind that.
func viable(l []string) bool {
	open := 0
	for _, s := range l {
		switch s {
		case "(":
			open++
		case ")":
			open--
		}
		if open < 0 {
			return false
		}
	}
	for _, operand := range [][]string{nil, {"x"}} {
		whole := slices.Concat(l, operand, slices.Repeat([]string{")"}, open))
		if oracleImplies(whole) != nil {
			return true
		}
	}
	return false
}

// list appends the nodes of a tree to l.
func (t *tree) list(l []Node) []Node {
	n := t.node
	if t.a != nil {
		l = t.a.list(l)
		n.A = len(l) - 1
	}
	if t.b != nil {
		l = t.b.list(l)
		n.B = len(l) - 1
	}
	return append(l, n)
}

func (t *tree) depth() int {
	switch t.node.Op {
	case Num, Bool, Var:
		return 0
	case Neg, Not:
		return t.a.depth() + 1
	case Implies:
		return max(t.a.depth(), t.b.depth()+1)
	}
	return max(t.a.depth(), t.b.depth())
}

// symbolsInOrder are the symbols from Neg to Implies.
var symbolsInOrder = strings.Fields("- ! + - == != < <= > >= && || ->")

func (t *tree) format() string {
	n := t.node
	switch n.Op {
	case Num:
		i := new(big.Int).SetUint64(n.Value.Hi)
		return i.Add(i.Lsh(i, 64), new(big.Int).SetUint64(n.Value.Lo)).String()
	case Bool:
		return []string{"false", "true"}[n.Value.Lo]
	case Var:
		return strings.TrimSuffix(n.Name+"::"+n.Attr, "::")
	case Neg, Not:
		return symbolsInOrder[n.Op-Neg] + "(" + t.a.format() + ")"
	}
	return "(" + t.a.format() + ") " + symbolsInOrder[n.Op-Neg] + " (" + t.b.format() + ")"
}

// expected is Parse as the chapter says it.
func expected(l []string) ([]Node, int, api.Errno) {
	root := oracleImplies(l)
	if root == nil {
		return nil, sort.Search(len(l), func(i int) bool { return !viable(l[:i+1]) }), api.ErrParse
	}
	nodes := root.list(nil)
	if len(nodes) > 120 || root.depth() > 12 {
		return nil, 0, api.ErrDepth
	}
	return nodes, 0, api.OK
}

// scan returns the tokens of a text that lexer.Scan accepts.
func scan(t *testing.T, s string) []lexer.Token {
	t.Helper()
	l, at, e := lexer.Scan(s)
	if e != api.OK {
		t.Fatalf("Scan(%q): %d, %d", s, at, e)
	}
	return l
}

// parsed tests Parse of tokens against expected, Depth and Format of the tree against those of a tree with pointers, and P7.2; it returns what Parse returns.
func parsed(t *testing.T, l []string) ([]Node, api.Errno) {
	t.Helper()
	s := strings.Join(l, " ")
	if len(s) > 400 {
		s = strings.Join(l, "")
	}
	want, at, code := expected(l)
	got, n, e := Parse(scan(t, s))
	if !slices.Equal(got, want) || n != at || e != code {
		t.Fatalf("Parse of %q = %v, %d, %d; want %v, %d, %d", s, got, n, e, want, at, code)
	}
	if e != api.OK {
		return got, e
	}
	root := oracleImplies(l)
	if d := Depth(got); d != root.depth() {
		t.Fatalf("Depth of %q = %d, want %d", s, d, root.depth())
	}
	text := Format(got)
	if text != root.format() {
		t.Fatalf("Format of %q = %q, want %q", s, text, root.format())
	}
	if len(text) <= 400 {
		again, n, e := Parse(scan(t, text))
		if !Same(again, got) || n != 0 || e != api.OK {
			t.Fatalf("Parse of %q, the text of the tree of %q, = %v, %d, %d", text, s, again, n, e)
		}
	}
	return got, e
}
