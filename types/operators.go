package types

import "matchguard/syntax"

// kind is a set of types: a node has one of them, an operator may take either one.
type kind int

const (
	number kind = 1 << iota
	truth
	either = number | truth
)

// operator says what an operation takes and makes. Its operands are all of the same type.
type operator struct {
	operands int
	takes    kind
	makes    kind
}

// operators has the operator of each operation.
var operators = [...]operator{
	syntax.Num:       {0, 0, number},
	syntax.Bool:      {0, 0, truth},
	syntax.Var:       {0, 0, number},
	syntax.Neg:       {1, number, number},
	syntax.Not:       {1, truth, truth},
	syntax.Add:       {2, number, number},
	syntax.Sub:       {2, number, number},
	syntax.Eq:        {2, either, truth},
	syntax.Ne:        {2, either, truth},
	syntax.Less:      {2, number, truth},
	syntax.LessEq:    {2, number, truth},
	syntax.Greater:   {2, number, truth},
	syntax.GreaterEq: {2, number, truth},
	syntax.And:       {2, truth, truth},
	syntax.Or:        {2, truth, truth},
	syntax.Implies:   {2, truth, truth},
}

// operatorOf returns the operator of an operation; the zero operator, which makes no type, if it is none.
func operatorOf(op int) operator {
	if op < 0 || op >= len(operators) {
		return operator{}
	}
	return operators[op]
}

// operandsFit reports whether a node has operands that its operator takes; ahead are the nodes ahead of it.
func operandsFit(n syntax.Node, ahead []syntax.Node) bool {
	o := operatorOf(n.Op)
	a, b := typeAt(ahead, n.A), typeAt(ahead, n.B)
	switch o.operands {
	case 0:
		return true
	case 1:
		return a&o.takes != 0
	}
	return a == b && a&o.takes != 0
}

// typeAt returns the type of the node i; none if there is no such node, as in lists that are no trees.
func typeAt(t []syntax.Node, i int) kind {
	if i < 0 || i >= len(t) {
		return 0
	}
	return operatorOf(t[i].Op).makes
}
