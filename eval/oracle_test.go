package eval

import (
	"math/big"
	"math/rand"
	"strings"
	"testing"

	"matchguard/api"
	"matchguard/syntax"
	"matchguard/types"
)

// ones is 2^128 - 1.
var ones = api.Value{Hi: 1<<64 - 1, Lo: 1<<64 - 1}

// of returns the value n.
func of(n uint64) api.Value { return api.Value{Lo: n} }

// power returns 2^n.
func power(n int) api.Value {
	if n < 64 {
		return api.Value{Lo: 1 << n}
	}
	return api.Value{Hi: 1 << (n - 64)}
}

// integerOf returns the integer that a value stands for.
func integerOf(v api.Value) *big.Int {
	n := new(big.Int).SetUint64(v.Hi)
	return n.Lsh(n, 64).Add(n, new(big.Int).SetUint64(v.Lo))
}

// binding returns the binding of a variable such as "a::value".
func binding(name string, v api.Value) Binding {
	name, attr, _ := strings.Cut(name, "::")
	return Binding{Name: name, Attr: attr, Value: v}
}

// varsOf returns the variables that have a binding.
func varsOf(b []Binding) []types.Var {
	var vars []types.Var
	for _, x := range b {
		vars = append(vars, types.Var{Name: x.Name, Attr: x.Attr})
	}
	return vars
}

// compile returns the tree of a restriction over the variables that have a binding.
func compile(t *testing.T, s string, b []Binding) []syntax.Node {
	t.Helper()
	tree, code := types.Compile(s, varsOf(b))
	if code != api.OK {
		t.Fatalf("Compile(%q) = %d", s, code)
	}
	return tree
}

// sentence is a text with what it means: an integer or a truth.
type sentence struct {
	text string
	n    *big.Int // nil for a truth
	b    bool
}

func (x sentence) inside() string { return "(" + x.text + ")" }

// unary returns the sentence with an operator ahead of one.
func unary(op string, x sentence) sentence {
	y := sentence{text: op + x.inside()}
	if op == "-" {
		y.n = new(big.Int).Neg(x.n)
	} else {
		y.b = !x.b
	}
	return y
}

// binary returns the sentence with an operator between two of the same type.
func binary(op string, x, y sentence) sentence {
	z := sentence{text: x.inside() + " " + op + " " + y.inside()}
	if x.n == nil {
		z.b = truths(op, x.b, y.b)
		return z
	}
	switch op {
	case "+":
		z.n = new(big.Int).Add(x.n, y.n)
	case "-":
		z.n = new(big.Int).Sub(x.n, y.n)
	default:
		z.b = strings.Contains(orders(op), []string{"less", "equal", "greater"}[x.n.Cmp(y.n)+1])
	}
	return z
}

// orders returns the orders of two integers with which a comparison is true.
func orders(op string) string {
	switch op {
	case "==":
		return "equal"
	case "!=":
		return "less greater"
	case "<":
		return "less"
	case "<=":
		return "less equal"
	case ">":
		return "greater"
	case ">=":
		return "greater equal"
	}
	panic(op)
}

// truths returns the truth that an operator makes of two.
func truths(op string, a, b bool) bool {
	row := 0
	if a {
		row += 2
	}
	if b {
		row++
	}
	// For neither, only b, only a, and both.
	tables := map[string]string{"==": "1001", "!=": "0110", "&&": "0001", "||": "0111", "->": "1101"}
	return tables[op][row] == '1'
}

// writer writes sentences over some bindings.
type writer struct {
	random *rand.Rand
	b      []Binding
}

// pick returns one of the words of a list.
func (w writer) pick(list string) string {
	l := strings.Fields(list)
	return l[w.random.Intn(len(l))]
}

// variable returns a variable, which means the value of the first binding for it.
func (w writer) variable() sentence {
	x := w.b[w.random.Intn(len(w.b))]
	text := x.Name
	if x.Attr != "" {
		text += "::" + x.Attr
	}
	for _, y := range w.b {
		if y.Name == x.Name && y.Attr == x.Attr {
			return sentence{text: text, n: integerOf(y.Value)}
		}
	}
	panic("no binding")
}

// literal returns a literal, small or near a power of 2.
func (w writer) literal() sentence {
	n := new(big.Int).Lsh(big.NewInt(1), uint(w.random.Intn(128)))
	n.Add(n, big.NewInt(int64(w.random.Intn(3)-1)))
	if w.random.Intn(2) == 0 {
		return sentence{text: "0x" + n.Text(16), n: n}
	}
	return sentence{text: n.String(), n: n}
}

// number returns a sentence for an integer, with that many operators.
func (w writer) number(size int) sentence {
	if size < 1 {
		if w.random.Intn(3) == 0 {
			return w.literal()
		}
		return w.variable()
	}
	if w.random.Intn(4) == 0 {
		return unary("-", w.number(size-1))
	}
	left := w.random.Intn(size)
	return binary(w.pick("+ -"), w.number(left), w.number(size-1-left))
}

// truth returns a sentence for a truth, with that many operators, or one more.
func (w writer) truth(size int) sentence {
	if size < 1 {
		return []sentence{{text: "true", b: true}, {text: "false"}, w.comparison(1)}[w.random.Intn(3)]
	}
	left := w.random.Intn(size)
	switch w.random.Intn(6) {
	case 0:
		return unary("!", w.truth(size-1))
	case 1, 2:
		return w.comparison(size)
	}
	return binary(w.pick("&& || -> == !="), w.truth(left), w.truth(size-1-left))
}

// comparison returns a comparison of integers, with that many operators; often they are equal, or almost.
func (w writer) comparison(size int) sentence {
	left := w.random.Intn(size)
	a, b := w.number(left), w.number(size-1-left)
	if w.random.Intn(2) == 0 {
		b = binary("-", binary("+", a, w.variable()), w.variable())
	}
	return binary(w.pick("== != < <= > >="), a, b)
}
