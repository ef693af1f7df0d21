package eval

import (
	"slices"

	"matchguard/api"
	"matchguard/number"
	"matchguard/syntax"
	"matchguard/types"
	"matchguard/value"
)

// meaning is what a node stands for: an integer or a truth.
type meaning interface {
	equals(b meaning) bool
}

type integer number.Number

type truth bool

func (a integer) equals(b meaning) bool {
	other, ok := b.(integer)
	return ok && a == other
}

func (a truth) equals(b meaning) bool {
	other, ok := b.(truth)
	return ok && a == other
}

// valuesOf returns the values of the variables that have a binding.
func valuesOf(b []Binding) map[types.Var]api.Value {
	values := map[types.Var]api.Value{}
	// Of several bindings of a variable, the first one is stored last.
	for _, x := range slices.Backward(b) {
		values[types.Var{Name: x.Name, Attr: x.Attr}] = x.Value
	}
	return values
}

// meaningOf returns the meaning of a node, from the values of the variables and the meanings of the nodes ahead of it.
func meaningOf(n syntax.Node, values map[types.Var]api.Value, ahead []meaning) meaning {
	switch n.Op {
	case syntax.Num:
		return integer(number.From(n.Value))
	case syntax.Bool:
		return truth(n.Value == value.Of(1))
	case syntax.Var:
		return integer(number.From(values[types.Var{Name: n.Name, Attr: n.Attr}]))
	}
	return operate(n.Op, meaningAt(ahead, n.A), meaningAt(ahead, n.B))
}

// meaningAt returns the meaning of the node i. Where there is no such node, as in lists that are no trees, it is false and not nil, so that every node has a meaning.
func meaningAt(l []meaning, i int) meaning {
	if i < 0 || i >= len(l) {
		return truth(false)
	}
	return l[i]
}

// operate returns the meaning of an operation. With one operand, b is any meaning.
func operate(op int, a, b meaning) meaning {
	switch op {
	case syntax.Eq:
		return truth(a.equals(b))
	case syntax.Ne:
		return truth(!a.equals(b))
	}
	switch x := a.(type) {
	case integer:
		y, _ := b.(integer)
		return compute(op, number.Number(x), number.Number(y))
	case truth:
		y, _ := b.(truth)
		return decide(op, x, y)
	}
	return truth(false)
}

// compute returns the meaning of an operation on integers.
func compute(op int, a, b number.Number) meaning {
	switch op {
	case syntax.Neg:
		return integer(number.Neg(a))
	case syntax.Add:
		return integer(number.Add(a, b))
	case syntax.Sub:
		return integer(number.Sub(a, b))
	case syntax.Less:
		return truth(number.Compare(a, b) < 0)
	case syntax.LessEq:
		return truth(number.Compare(a, b) <= 0)
	case syntax.Greater:
		return truth(number.Compare(a, b) > 0)
	case syntax.GreaterEq:
		return truth(number.Compare(a, b) >= 0)
	}
	return truth(false)
}

// decide returns the meaning of an operation on truths.
func decide(op int, a, b truth) meaning {
	switch op {
	case syntax.Not:
		return !a
	case syntax.And:
		return a && b
	case syntax.Or:
		return a || b
	case syntax.Implies:
		return !a || b
	}
	return truth(false)
}
