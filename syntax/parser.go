package syntax

import (
	"strings"

	"matchguard/lexer"
	"matchguard/number"
	"matchguard/value"
)

// parser has a method for each rule of the grammar, which consumes the tokens of the rule and returns the index of the node that stands for them.
type parser struct {
	tokens []lexer.Token
	at     int // index of the next token
	nodes  []Node
}

// misfit is what a parser panics with: the index of the first token that cannot follow the tokens ahead of it.
type misfit int

// parse returns the tree of a sentence.
func parse(l []lexer.Token) []Node {
	p := parser{tokens: l}
	p.implies()
	if p.at < len(l) {
		p.fail()
	}
	return p.nodes
}

func (p *parser) implies() int {
	a := p.or()
	if p.operator(Implies) == 0 {
		return a
	}
	return p.add(Node{Op: Implies, A: a, B: p.implies()})
}

func (p *parser) or() int {
	return p.grouped(p.and, Or)
}

func (p *parser) and() int {
	return p.grouped(p.not, And)
}

func (p *parser) not() int {
	if p.operator(Not) == 0 {
		return p.compare()
	}
	return p.add(Node{Op: Not, A: p.not()})
}

func (p *parser) compare() int {
	a := p.sum()
	op := p.operator(Eq, Ne, Less, LessEq, Greater, GreaterEq)
	if op == 0 {
		return a
	}
	return p.add(Node{Op: op, A: a, B: p.sum()})
}

func (p *parser) sum() int {
	return p.grouped(p.unary, Add, Sub)
}

func (p *parser) unary() int {
	if p.operator(Neg) == 0 {
		return p.atom()
	}
	return p.add(Node{Op: Neg, A: p.unary()})
}

func (p *parser) atom() int {
	if p.symbol(opening) {
		inner := p.implies()
		if !p.symbol(closing) {
			p.fail()
		}
		return inner
	}
	if p.peek().Kind == lexer.Literal {
		return p.literal()
	}
	return p.named()
}

func (p *parser) literal() int {
	// Scan returns no literals but those that have a value.
	n, _ := number.Literal(p.peek().Text)
	v, _ := number.Value(n)
	p.at++
	return p.add(Node{Op: Num, Value: v})
}

// named consumes a truth value or a variable.
func (p *parser) named() int {
	name := p.name()
	switch name {
	case truth:
		return p.add(Node{Op: Bool, Value: value.Of(1)})
	case falsehood:
		return p.add(Node{Op: Bool})
	}
	attr := ""
	if p.symbol(ofAttr) {
		attr = p.name()
	}
	return p.add(Node{Op: Var, Name: name, Attr: attr})
}

// name consumes a name, and returns its text.
func (p *parser) name() string {
	next := p.peek()
	if next.Kind != lexer.Name {
		p.fail()
	}
	p.at++
	return strings.Clone(next.Text)
}

// grouped consumes parts between which there are symbols of the operations, and groups them from the left.
func (p *parser) grouped(part func() int, ops ...int) int {
	a := part()
	for {
		op := p.operator(ops...)
		if op == 0 {
			return a
		}
		a = p.add(Node{Op: op, A: a, B: part()})
	}
}

// operator consumes the next token if it is the symbol of one of the operations, and returns that operation; otherwise it returns 0.
func (p *parser) operator(ops ...int) int {
	for _, op := range ops {
		if p.symbol(symbols[op]) {
			return op
		}
	}
	return 0
}

// symbol consumes the next token if it is that symbol, and reports whether it is.
func (p *parser) symbol(text string) bool {
	next := p.peek()
	if next.Kind != lexer.Symbol || next.Text != text {
		return false
	}
	p.at++
	return true
}

// peek returns the next token; behind the last one it is the zero token, which no rule consumes.
func (p *parser) peek() lexer.Token {
	if p.at < len(p.tokens) {
		return p.tokens[p.at]
	}
	return lexer.Token{}
}

func (p *parser) add(n Node) int {
	p.nodes = append(p.nodes, n)
	return len(p.nodes) - 1
}

// fail reports the next token, or the end, as the one that does not fit.
func (p *parser) fail() {
	panic(misfit(p.at))
}
