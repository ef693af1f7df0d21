package syntax

import (
	"strings"

	"matchguard/number"
	"matchguard/value"
)

// writer writes a tree as text.
type writer struct {
	tree []Node
	left int // nodes that may still be written: a tree has each of its nodes once, so that this stops only where the operands of a list are no tree
	text strings.Builder
}

// node writes the node i, with everything below it.
func (w *writer) node(i int) {
	if i < 0 || i >= len(w.tree) || w.left == 0 {
		return
	}
	w.left--
	n := w.tree[i]
	switch n.Op {
	case Num, Bool, Var:
		w.text.WriteString(leaf(n))
	case Neg, Not:
		w.text.WriteString(symbols[n.Op])
		w.operand(n.A)
	default:
		w.operand(n.A)
		w.text.WriteString(" " + symbolOf(n.Op) + " ")
		w.operand(n.B)
	}
}

func (w *writer) operand(i int) {
	w.text.WriteString(opening)
	w.node(i)
	w.text.WriteString(closing)
}

// leaf returns the text of a node without operands.
func leaf(n Node) string {
	switch {
	case n.Op == Num:
		return number.Text(number.From(n.Value))
	case n.Op == Bool && n.Value == value.Of(1):
		return truth
	case n.Op == Bool:
		return falsehood
	case n.Attr == "":
		return n.Name
	}
	return n.Name + ofAttr + n.Attr
}

// symbolOf returns the symbol of an operation; the empty string if it is none.
func symbolOf(op int) string {
	if op < 0 || op >= len(symbols) {
		return ""
	}
	return symbols[op]
}
