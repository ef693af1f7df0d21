package types

import (
	"math/rand"
	"slices"
	"strings"
	"testing"

	"matchguard/api"
	"matchguard/lexer"
	"matchguard/syntax"
)

// The operations as the chapter groups them.
var (
	numeric   = []int{syntax.Neg, syntax.Add, syntax.Sub, syntax.Less, syntax.LessEq, syntax.Greater, syntax.GreaterEq} // take numbers
	logical   = []int{syntax.Not, syntax.And, syntax.Or, syntax.Implies}                                                // take truths
	equations = []int{syntax.Eq, syntax.Ne}                                                                             // take two of the same type
	unaries   = []int{syntax.Neg, syntax.Not}
	leaves    = []int{syntax.Num, syntax.Bool, syntax.Var}
	numbers   = []int{syntax.Num, syntax.Var, syntax.Neg, syntax.Add, syntax.Sub} // are numbers
)

// isNumber reports whether a node is a number; otherwise it is a truth.
func isNumber(n syntax.Node) bool { return slices.Contains(numbers, n.Op) }

// oracle looks for an error in the node i and in what is below it, in the order of the nodes.
func oracle(t []syntax.Node, i int, vars []Var) (int, api.Errno) {
	n := t[i]
	if n.Op == syntax.Var && !slices.Contains(vars, Var{n.Name, n.Attr}) {
		return i, api.ErrUnknown
	}
	if slices.Contains(leaves, n.Op) {
		return 0, api.OK
	}
	operands := []int{n.A, n.B}
	if slices.Contains(unaries, n.Op) {
		operands = operands[:1]
	}
	count := 0 // of operands that are numbers
	for _, x := range operands {
		if at, code := oracle(t, x, vars); code != api.OK {
			return at, code
		}
		if isNumber(t[x]) {
			count++
		}
	}
	switch {
	case slices.Contains(numeric, n.Op) && count == len(operands):
	case slices.Contains(logical, n.Op) && count == 0:
	case slices.Contains(equations, n.Op) && (count == 0 || count == 2):
	default:
		return i, api.ErrType
	}
	return 0, api.OK
}

// expected is Check as the chapter says it, for a tree that Parse returns.
func expected(t []syntax.Node, vars []Var) (int, api.Errno) {
	root := len(t) - 1
	if at, code := oracle(t, root, vars); code != api.OK {
		return at, code
	}
	if isNumber(t[root]) {
		return root, api.ErrType
	}
	return 0, api.OK
}

// checked tests Check of a tree against expected, also with the variables in other orders (P8.2), and returns the error.
func checked(t *testing.T, random *rand.Rand, tree []syntax.Node, vars []Var) api.Errno {
	t.Helper()
	at, code := expected(tree, vars)
	list := slices.Clone(vars)
	for range 3 {
		if n, e := Check(tree, list); n != at || e != code {
			t.Fatalf("Check(%q, %v) = %d, %d; want %d, %d", syntax.Format(tree), list, n, e, at, code)
		}
		random.Shuffle(len(list), func(i, j int) { list[i], list[j] = list[j], list[i] })
		if len(list) > 0 {
			list = append(list, list[random.Intn(len(list))])
		}
	}
	return code
}

// parse returns the tree of a text, and the error of Scan or Parse.
func parse(s string) ([]syntax.Node, api.Errno) {
	l, _, e := lexer.Scan(s)
	if e != api.OK {
		return nil, e
	}
	t, _, e := syntax.Parse(l)
	return t, e
}

// join returns the tree with an operation at its root.
func join(op int, operands ...[]syntax.Node) []syntax.Node {
	var t []syntax.Node
	root := syntax.Node{Op: op}
	for i, x := range operands {
		begin := len(t)
		for _, n := range x {
			if !slices.Contains(leaves, n.Op) {
				n.A += begin
			}
			if !slices.Contains(leaves, n.Op) && !slices.Contains(unaries, n.Op) {
				n.B += begin
			}
			t = append(t, n)
		}
		if i == 0 {
			root.A = len(t) - 1
		} else {
			root.B = len(t) - 1
		}
	}
	return append(t, root)
}

// small returns all trees of each number of nodes, up to most, that consist of the leaves and of all operations.
func small(leaves []syntax.Node, most int) [][][]syntax.Node {
	trees := make([][][]syntax.Node, most+1)
	for _, n := range leaves {
		trees[1] = append(trees[1], []syntax.Node{n})
	}
	for size := 2; size <= most; size++ {
		for op := syntax.Neg; op <= syntax.Implies; op++ {
			if slices.Contains(unaries, op) {
				for _, a := range trees[size-1] {
					trees[size] = append(trees[size], join(op, a))
				}
				continue
			}
			for left := 1; left < size-1; left++ {
				for _, a := range trees[left] {
					for _, b := range trees[size-1-left] {
						trees[size] = append(trees[size], join(op, a, b))
					}
				}
			}
		}
	}
	return trees
}

// sentences writes sentences of which most have no error.
type sentences struct {
	random *rand.Rand
	wrong  int // one leaf or operator of that many is exchanged for any other one
}

func (s sentences) one(list string) string {
	if s.random.Intn(s.wrong) == 0 {
		list = "a a::value 1 true b x::value a::mask (1<2) (1+2) -1"
	}
	l := strings.Fields(list)
	return l[s.random.Intn(len(l))]
}

// number returns a sentence for a number, with about that many operators.
func (s sentences) number(size int) string {
	if size < 1 {
		return s.one("0 1 0xff a a::value b::low b::high priority")
	}
	left := s.random.Intn(size)
	switch s.random.Intn(3) {
	case 0:
		return "-" + s.number(size-1)
	case 1:
		return s.number(left) + "+" + s.number(size-1-left)
	}
	return "(" + s.number(left) + "-" + s.number(size-1-left) + ")"
}

// truth returns a sentence for a truth.
func (s sentences) truth(size int) string {
	if size < 1 {
		return s.one("true false (a==1) (1!=b::low)")
	}
	left := s.random.Intn(size)
	right := size - 1 - left
	switch s.random.Intn(5) {
	case 0:
		return "(!" + s.truth(size-1) + ")"
	case 1:
		return "(" + s.truth(left) + s.any("== !=") + s.truth(right) + ")"
	case 2:
		return "(" + s.number(left) + s.any("== != < <= > >=") + s.number(right) + ")"
	}
	return "(" + s.truth(left) + s.any("&& || ->") + s.truth(right) + ")"
}

func (s sentences) any(list string) string {
	l := strings.Fields(list)
	if s.random.Intn(s.wrong) == 0 {
		l = strings.Fields("+ - == < && || ->")
	}
	return l[s.random.Intn(len(l))]
}
