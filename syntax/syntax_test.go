package syntax

import (
	"math/rand"
	"slices"
	"strings"
	"testing"
	"unsafe"

	"matchguard/api"
	"matchguard/lexer"
)

const greatest = "340282366920938463463374607431768211455" // 2^128 - 1

// parseText parses a text.
func parseText(t *testing.T, s string) ([]Node, int, api.Errno) {
	t.Helper()
	return Parse(scan(t, s))
}

func v(name string) Node        { return Node{Op: Var, Name: name} }
func of(name, attr string) Node { return Node{Op: Var, Name: name, Attr: attr} }
func num(n uint64) Node         { return Node{Op: Num, Value: api.Value{Lo: n}} }
func unary(op, a int) Node      { return Node{Op: op, A: a} }
func node(op, a, b int) Node    { return Node{Op: op, A: a, B: b} }

var (
	yes = Node{Op: Bool, Value: api.Value{Lo: 1}}
	no  = Node{Op: Bool}
)

func TestOperations(t *testing.T) {
	for i, op := range []int{Num, Bool, Var, Neg, Not, Add, Sub, Eq, Ne, Less, LessEq, Greater, GreaterEq, And, Or, Implies} {
		if op != i+1 {
			t.Errorf("operation %d is %d", i+1, op)
		}
	}
}

// P7.1 Parse, Depth and Format, of sentences
func TestTrees(t *testing.T) {
	for _, x := range []struct {
		s     string
		want  []Node
		depth int
		text  string
	}{
		{"a", []Node{v("a")}, 0, "a"},
		{"a_9", []Node{v("a_9")}, 0, "a_9"},
		{"a::b", []Node{of("a", "b")}, 0, "a::b"},
		{"a :: b", []Node{of("a", "b")}, 0, "a::b"},
		{"a::true", []Node{of("a", "true")}, 0, "a::true"},
		{"a::false", []Node{of("a", "false")}, 0, "a::false"},
		{"true", []Node{yes}, 0, "true"},
		{"false", []Node{no}, 0, "false"},
		{"truer", []Node{v("truer")}, 0, "truer"},
		{"0", []Node{num(0)}, 0, "0"},
		{"1", []Node{num(1)}, 0, "1"},
		{"007", []Node{num(7)}, 0, "7"},
		{"0x1f", []Node{num(31)}, 0, "31"},
		{"18446744073709551616", []Node{{Op: Num, Value: api.Value{Hi: 1}}}, 0, "18446744073709551616"},
		{"0x" + strings.Repeat("f", 32), []Node{{Op: Num, Value: api.Value{Hi: 1<<64 - 1, Lo: 1<<64 - 1}}}, 0, greatest},
		{"(a)", []Node{v("a")}, 0, "a"},
		{"(((7)))", []Node{num(7)}, 0, "7"},
		{"((a::b))", []Node{of("a", "b")}, 0, "a::b"},

		{"-a", []Node{v("a"), unary(Neg, 0)}, 1, "-(a)"},
		{"--1", []Node{num(1), unary(Neg, 0), unary(Neg, 1)}, 2, "-(-(1))"},
		{"!a", []Node{v("a"), unary(Not, 0)}, 1, "!(a)"},
		{"!!true", []Node{yes, unary(Not, 0), unary(Not, 1)}, 2, "!(!(true))"},
		{"a+b", []Node{v("a"), v("b"), node(Add, 0, 1)}, 0, "(a) + (b)"},
		{"a-b", []Node{v("a"), v("b"), node(Sub, 0, 1)}, 0, "(a) - (b)"},
		{"a==b", []Node{v("a"), v("b"), node(Eq, 0, 1)}, 0, "(a) == (b)"},
		{"a!=b", []Node{v("a"), v("b"), node(Ne, 0, 1)}, 0, "(a) != (b)"},
		{"a<b", []Node{v("a"), v("b"), node(Less, 0, 1)}, 0, "(a) < (b)"},
		{"a<=b", []Node{v("a"), v("b"), node(LessEq, 0, 1)}, 0, "(a) <= (b)"},
		{"a>b", []Node{v("a"), v("b"), node(Greater, 0, 1)}, 0, "(a) > (b)"},
		{"a>=b", []Node{v("a"), v("b"), node(GreaterEq, 0, 1)}, 0, "(a) >= (b)"},
		{"a&&b", []Node{v("a"), v("b"), node(And, 0, 1)}, 0, "(a) && (b)"},
		{"a||b", []Node{v("a"), v("b"), node(Or, 0, 1)}, 0, "(a) || (b)"},
		{"a->b", []Node{v("a"), v("b"), node(Implies, 0, 1)}, 1, "(a) -> (b)"},

		// The same operators again: implies is grouped from the right, all others from the left.
		{"a->b->c", []Node{v("a"), v("b"), v("c"), node(Implies, 1, 2), node(Implies, 0, 3)}, 2, "(a) -> ((b) -> (c))"},
		{"(a->b)->c", []Node{v("a"), v("b"), node(Implies, 0, 1), v("c"), node(Implies, 2, 3)}, 1, "((a) -> (b)) -> (c)"},
		{"a||b||c", []Node{v("a"), v("b"), node(Or, 0, 1), v("c"), node(Or, 2, 3)}, 0, "((a) || (b)) || (c)"},
		{"a||(b||c)", []Node{v("a"), v("b"), v("c"), node(Or, 1, 2), node(Or, 0, 3)}, 0, "(a) || ((b) || (c))"},
		{"a&&b&&c", []Node{v("a"), v("b"), node(And, 0, 1), v("c"), node(And, 2, 3)}, 0, "((a) && (b)) && (c)"},
		{"a-b+c-d", []Node{v("a"), v("b"), node(Sub, 0, 1), v("c"), node(Add, 2, 3), v("d"), node(Sub, 4, 5)}, 0, "(((a) - (b)) + (c)) - (d)"},
		{"a-(b-c)", []Node{v("a"), v("b"), v("c"), node(Sub, 1, 2), node(Sub, 0, 3)}, 0, "(a) - ((b) - (c))"},
		{"(a==b)==c", []Node{v("a"), v("b"), node(Eq, 0, 1), v("c"), node(Eq, 2, 3)}, 0, "((a) == (b)) == (c)"},

		// Different operators: each rule is within the one ahead of it.
		{"!a && b -> c", []Node{v("a"), unary(Not, 0), v("b"), node(And, 1, 2), v("c"), node(Implies, 3, 4)}, 1, "((!(a)) && (b)) -> (c)"},
		{"a || b -> c || d", []Node{v("a"), v("b"), node(Or, 0, 1), v("c"), v("d"), node(Or, 3, 4), node(Implies, 2, 5)}, 1, "((a) || (b)) -> ((c) || (d))"},
		{"a || b && c", []Node{v("a"), v("b"), v("c"), node(And, 1, 2), node(Or, 0, 3)}, 0, "(a) || ((b) && (c))"},
		{"(a || b) && c", []Node{v("a"), v("b"), node(Or, 0, 1), v("c"), node(And, 2, 3)}, 0, "((a) || (b)) && (c)"},
		{"a && !b", []Node{v("a"), v("b"), unary(Not, 1), node(And, 0, 2)}, 1, "(a) && (!(b))"},
		{"!a == b", []Node{v("a"), v("b"), node(Eq, 0, 1), unary(Not, 2)}, 1, "!((a) == (b))"},
		{"(!a) == b", []Node{v("a"), unary(Not, 0), v("b"), node(Eq, 1, 2)}, 1, "(!(a)) == (b)"},
		{"!-a", []Node{v("a"), unary(Neg, 0), unary(Not, 1)}, 2, "!(-(a))"},
		{"-(!a)", []Node{v("a"), unary(Not, 0), unary(Neg, 1)}, 2, "-(!(a))"},
		{"a + b < c - d", []Node{v("a"), v("b"), node(Add, 0, 1), v("c"), v("d"), node(Sub, 3, 4), node(Less, 2, 5)}, 0, "((a) + (b)) < ((c) - (d))"},
		{"a < b && c", []Node{v("a"), v("b"), node(Less, 0, 1), v("c"), node(And, 2, 3)}, 0, "((a) < (b)) && (c)"},
		{"-a+b", []Node{v("a"), unary(Neg, 0), v("b"), node(Add, 1, 2)}, 1, "(-(a)) + (b)"},
		{"-(a+b)", []Node{v("a"), v("b"), node(Add, 0, 1), unary(Neg, 2)}, 1, "-((a) + (b))"},
		{"a--b", []Node{v("a"), v("b"), unary(Neg, 1), node(Sub, 0, 2)}, 1, "(a) - (-(b))"},
		{"a->-b", []Node{v("a"), v("b"), unary(Neg, 1), node(Implies, 0, 2)}, 2, "(a) -> (-(b))"},
		{"-a->b", []Node{v("a"), unary(Neg, 0), v("b"), node(Implies, 1, 2)}, 1, "(-(a)) -> (b)"},
		{"a->!(b->!c)", []Node{v("a"), v("b"), v("c"), unary(Not, 2), node(Implies, 1, 3), unary(Not, 4), node(Implies, 0, 5)}, 4, "(a) -> (!((b) -> (!(c))))"},
		{"d::prefix_length >= 8 -> d::value > 0", []Node{of("d", "prefix_length"), num(8), node(GreaterEq, 0, 1), of("d", "value"), num(0), node(Greater, 3, 4), node(Implies, 2, 5)}, 1, "((d::prefix_length) >= (8)) -> ((d::value) > (0))"},
	} {
		l, n, e := parseText(t, x.s)
		if !slices.Equal(l, x.want) || n != 0 || e != api.OK {
			t.Errorf("Parse of %q = %v, %d, %d", x.s, l, n, e)
		}
		if d := Depth(x.want); d != x.depth {
			t.Errorf("Depth of %q = %d", x.s, d)
		}
		if s := Format(x.want); s != x.text {
			t.Errorf("Format of %q = %q", x.s, s)
		}
		if again, n, e := parseText(t, x.text); !Same(again, x.want) || n != 0 || e != api.OK {
			t.Errorf("Parse of %q = %v, %d, %d", x.text, again, n, e)
		}
	}
}

// P7.1 Parse, of tokens that are no sentence: the index is that of the first one that does not fit, or their number
func TestErrParse(t *testing.T) {
	for _, x := range []struct {
		s  string
		at int
	}{
		// Only the end does not fit.
		{"", 0}, {"(", 1}, {"((", 2}, {"!", 1}, {"-", 1}, {"a::", 2}, {"(a", 2}, {"(a::b", 4}, {"a +", 2}, {"a -", 2}, {"a ==", 2}, {"a != -", 3}, {"a &&", 2}, {"a || !", 3}, {"a ->", 2}, {"(a -> (b)", 6}, {"(a) <", 4},
		// Nothing begins with these.
		{")", 0}, {"+ a", 0}, {"== a", 0}, {"!= a", 0}, {"< a", 0}, {"<= a", 0}, {"> a", 0}, {">= a", 0}, {"&& a", 0}, {"|| a", 0}, {"-> a", 0}, {":: a", 0}, {"()", 1}, {"(+ a)", 1}, {"!+ a", 1}, {"-+ a", 1},
		// Something has ended ahead of these.
		{"a b", 1}, {"1 2", 1}, {"a 1", 1}, {"1 a", 1}, {"a true", 1}, {"true a", 1}, {"a (b)", 1}, {"(a) b", 3}, {"(a)(b)", 3}, {"a ! b", 1}, {"a)", 1}, {"(a))", 3}, {"a -> b)", 3}, {"(a b)", 2}, {"a::b c", 3},
		// Comparisons are not repeated, on no level.
		{"a == b == c", 3}, {"a < b > c", 3}, {"a <= b + c >= d", 5}, {"a != b != c", 3}, {"(a == b) != c < d", 7}, {"(a == b == c)", 4}, {"!a > b < c", 4}, {"a && b == c == d", 5},
		// "!" is no operand of a comparison, a sum or "-".
		{"a == !b", 2}, {"a < !b", 2}, {"a + !b", 2}, {"a - !b", 2}, {"-!a", 1}, {"!-!a", 2}, {"(a == !b)", 3},
		// There is one attribute, and only a variable has it.
		{"a::1", 2}, {"a::0x1", 2}, {"a::(b)", 2}, {"a::::b", 2}, {"a::-", 2}, {"a::b::c", 3}, {"1::a", 1}, {"true::a", 1}, {"false::a", 1}, {"(a)::b", 3}, {"-a::b::c", 4},
		{"a + + b", 2}, {"a + == b", 2}, {"a && && b", 2}, {"a || -> b", 2}, {"a -> -> b", 2}, {"a && || b", 2}, {"a || )", 2}, {"(a &&)", 3}, {"a !! b", 1},
		// The first error counts.
		{") ) (", 0}, {"a b c )", 1}, {"(a == b == c", 4}, {"a + ) b c", 2},
	} {
		if l, n, e := parseText(t, x.s); len(l) != 0 || n != x.at || e != api.ErrParse {
			t.Errorf("Parse of %q = %v, %d, %d", x.s, l, n, e)
		}
		parsed(t, spell(t, x.s))
	}
}

// spell returns the texts of the tokens of a text.
func spell(t *testing.T, s string) []string {
	var l []string
	for _, x := range scan(t, s) {
		l = append(l, x.Text)
	}
	return l
}

// P7.1 Parse, of trees that are as great, and as deep, as permitted, and greater and deeper ones
func TestErrDepth(t *testing.T) {
	again := strings.Repeat
	for _, x := range []struct {
		s    string
		code api.Errno
	}{
		{again("a+", 59) + "a", api.OK},       // 119 nodes
		{"-" + again("a+", 59) + "a", api.OK}, // 120
		{again("a&&", 59) + "!a", api.OK},     // 120
		{again("a+", 60) + "a", api.ErrDepth}, // 121
		{"--" + again("a-", 59) + "a", api.ErrDepth},
		{again("a||", 60) + "a", api.ErrDepth},
		{again("a&&", 59) + "!!a", api.ErrDepth},
		{again("a+", 59) + "a<1", api.ErrDepth},
		{again("a+", 199) + "a", api.ErrDepth},

		{again("!", 12) + "a", api.OK},
		{again("!", 13) + "a", api.ErrDepth},
		{again("-", 12) + "1", api.OK},
		{again("-", 13) + "1", api.ErrDepth},
		{again("!", 6) + again("-", 6) + "a", api.OK},
		{again("!", 6) + again("-", 7) + "a", api.ErrDepth},
		{again("a->", 12) + "a", api.OK},
		{again("a->", 13) + "a", api.ErrDepth},
		{again("a->", 6) + again("!", 6) + "a", api.OK},
		{again("a->", 7) + again("!", 6) + "a", api.ErrDepth},
		{again("!", 12) + "a->b", api.OK},
		{again("!", 13) + "a->b", api.ErrDepth},
		{"b->" + again("!", 11) + "a", api.OK},
		{"b->" + again("!", 12) + "a", api.ErrDepth},
		{again("-", 12) + "a<b&&c||d", api.OK},
		{again("-", 13) + "a<b&&c||d", api.ErrDepth},
		{"d||c&&b<" + again("-", 12) + "a", api.OK},
		{"d||c&&b<" + again("-", 13) + "a", api.ErrDepth},
		{"(" + again("!", 12) + "a)||(" + again("!", 12) + "b)", api.OK},
		{again("!(a->", 6) + "b" + again(")", 6), api.OK},
		{again("!(a->", 7) + "b" + again(")", 7), api.ErrDepth},
		// Neither parentheses, nor implications on the left, nor the other operators make a tree deep.
		{again("(", 199) + "a" + again(")", 199), api.OK},
		{again("(", 50) + "a" + again("->a)", 50), api.OK},
		{again("(a+", 50) + "a" + again(")", 50), api.OK},
		{again("(a&&b||", 20) + "a<b" + again(")", 20), api.OK},

		// What is no sentence has the other error, however deep it is.
		{again("!", 13) + "a b", api.ErrParse},
		{again("a+", 80), api.ErrParse},
		{again("!", 400), api.ErrParse},
		{again("(", 400), api.ErrParse},
		{again("a->", 133), api.ErrParse},
		{again(")", 400), api.ErrParse},
	} {
		l, e := parsed(t, spell(t, x.s))
		if e != x.code || (len(l) != 0) != (e == api.OK) {
			t.Errorf("Parse of %q = %v, %d", x.s, l, e)
		}
	}
	if l, n, e := parseText(t, again("!", 400)); len(l) != 0 || n != 400 || e != api.ErrParse {
		t.Errorf("Parse of 400 tokens = %v, %d, %d", l, n, e)
	}
	if l, n, e := parseText(t, again("!", 13)+"a"); len(l) != 0 || n != 0 || e != api.ErrDepth {
		t.Errorf("Parse with an error of the depth = %v, %d, %d", l, n, e)
	}
}

// P7.1 Depth and Format, of the empty list
func TestNoNodes(t *testing.T) {
	for _, l := range [][]Node{nil, {}} {
		if Depth(l) != 0 || Format(l) != "" {
			t.Errorf("Depth and Format of no nodes = %d, %q", Depth(l), Format(l))
		}
	}
}

// P7.1 Same
func TestSame(t *testing.T) {
	one := []Node{v("a"), of("a", "b"), node(Add, 0, 1)}
	if !Same(one, slices.Clone(one)) || !Same(one, one) || !Same(nil, nil) || !Same(nil, []Node{}) || !Same([]Node{}, nil) {
		t.Error("equal lists are not the same")
	}
	var others [][]Node
	for i := range one {
		for _, change := range []func(n *Node){
			func(n *Node) { n.Op++ },
			func(n *Node) { n.A++ },
			func(n *Node) { n.B++ },
			func(n *Node) { n.Name += "c" },
			func(n *Node) { n.Attr += "c" },
			func(n *Node) { n.Value.Hi++ },
			func(n *Node) { n.Value.Lo++ },
		} {
			other := slices.Clone(one)
			change(&other[i])
			others = append(others, other)
		}
		others = append(others, one[:i], one[i+1:])
	}
	others = append(others, nil, []Node{{}}, append(slices.Clone(one), Node{}), []Node{one[1], one[0], one[2]})
	for _, other := range others {
		if Same(one, other) || Same(other, one) {
			t.Errorf("%v and %v are the same", one, other)
		}
	}
	if Same(nil, []Node{{}}) || Same([]Node{{}}, nil) {
		t.Error("no nodes, and the zero node, are the same")
	}
}

// each calls f with every list of at most n tokens.
func each(tokens []string, n int, ahead []string, f func(l []string)) {
	f(ahead)
	if n == 0 {
		return
	}
	for _, x := range tokens {
		each(tokens, n-1, append(slices.Clip(ahead), x), f)
	}
}

// P7.1, P7.2, for all short lists of tokens
func TestShort(t *testing.T) {
	check := func(l []string) { parsed(t, l) }
	all := strings.Fields("( ) ! && || -> == != < <= > >= + - :: a 1 true")
	each(all, 3, nil, check)
	each(strings.Fields("a 7 ( ) ! - + == && || -> ::"), 4, nil, check)
	each(strings.Fields("a ( ) ! ->"), 7, nil, check)
	each(strings.Fields("a - + >="), 7, nil, check)
	each(strings.Fields("a && || ->"), 7, nil, check)
	each(strings.Fields("a ! < && -"), 6, nil, check)
	each(strings.Fields("a 0x2 true false :: !="), 6, nil, check)
}

// levels of the rules
const (
	ofImplies = iota
	ofOr
	ofAnd
	ofNot
	ofCompare
	ofSum
	ofUnary
	ofAtom
)

// levelsOf returns the level of the rule that makes a node, and those of its operands.
func levelsOf(op int) (int, int, int) {
	switch op {
	case Implies:
		return ofImplies, ofOr, ofImplies
	case Or:
		return ofOr, ofOr, ofAnd
	case And:
		return ofAnd, ofAnd, ofNot
	case Not:
		return ofNot, ofNot, ofNot
	case Add, Sub:
		return ofSum, ofSum, ofUnary
	case Neg:
		return ofUnary, ofUnary, ofUnary
	case Num, Bool, Var:
		return ofAtom, ofAtom, ofAtom
	}
	return ofCompare, ofSum, ofSum
}

// write returns the tokens of a tree where a part of a level is asked for: with the parentheses that it needs, and as many more as extra says for each node.
func write(n *tree, level int, extra func() int) []string {
	own, left, right := levelsOf(n.node.Op)
	var l []string
	switch {
	case n.b != nil:
		l = slices.Concat(write(n.a, left, extra), symbolsInOrder[n.node.Op-Neg:][:1], write(n.b, right, extra))
	case n.a != nil:
		l = slices.Concat(symbolsInOrder[n.node.Op-Neg:][:1], write(n.a, left, extra))
	case n.node.Attr != "":
		l = []string{n.node.Name, "::", n.node.Attr}
	default:
		l = []string{n.format()}
	}
	pairs := extra()
	if own < level {
		pairs++
	}
	return slices.Concat(slices.Repeat([]string{"("}, pairs), l, slices.Repeat([]string{")"}, pairs))
}

// grow returns a tree with that many operators, which are of the operations ops.
func grow(random *rand.Rand, size int, ops []int) *tree {
	if size == 0 {
		return leafOf([]Node{v("a"), v("b7"), of("c", "mask"), of("d", "true"), num(0), num(42), {Op: Num, Value: api.Value{Hi: 1 << 63}}, yes, no}[random.Intn(9)])
	}
	op := ops[random.Intn(len(ops))]
	if op <= Not {
		return join(op, grow(random, size-1, ops))
	}
	part := random.Intn(size)
	return join(op, grow(random, part, ops), grow(random, size-1-part, ops))
}

// P7.1, P7.2, for long sentences: their trees are those that they were made from, with any parentheses; and for what becomes of them by a change of a token
func TestLong(t *testing.T) {
	random := rand.New(rand.NewSource(7))
	tokens := append(slices.Clone(symbolsInOrder), "(", ")", "::", "a", "true", "false", "5", "0xff")
	ops := [][]int{{Neg, Not, Add, Sub, Eq, Ne, Less, LessEq, Greater, GreaterEq, And, Or, Implies}, {Neg, Not, Neg, Not, Implies, Add}}
	for i := range 3000 {
		root := grow(random, random.Intn(3+i/50), ops[i%2])
		want := root.list(nil)
		ok := len(want) <= 120 && root.depth() <= 12
		for most := range 4 {
			l := write(root, ofImplies, func() int { return random.Intn(most + 1) })
			if len(strings.Join(l, "")) > 400 {
				continue
			}
			got, e := parsed(t, l)
			if ok != (e == api.OK) || ok && !Same(got, want) {
				t.Fatalf("the tree of %q is %v, %d", l, got, e)
			}
			for range 3 {
				if other := alter(random, l, tokens[random.Intn(len(tokens))]); len(strings.Join(other, " ")) <= 400 {
					parsed(t, other)
				}
			}
		}
	}
}

// alter returns tokens in which one is replaced by x, deleted, or preceded by x.
func alter(random *rand.Rand, l []string, x string) []string {
	i := random.Intn(len(l))
	switch random.Intn(3) {
	case 0:
		return slices.Concat(l[:i], []string{x}, l[i+1:])
	case 1:
		return slices.Delete(slices.Clone(l), i, i+1)
	}
	return slices.Insert(slices.Clone(l), i, x)
}

// R1: Parse ends without a panic for all tokens, also those that Scan does not return.
func TestAnyTokens(t *testing.T) {
	random := rand.New(rand.NewSource(8))
	texts := []string{"", "(", ")", "!", "-", "+", "==", "::", "->", "a", "true", "1", "0x", "x y", "\xff", strings.Repeat("9", 50), "-1"}
	for range 50000 {
		l := make([]lexer.Token, random.Intn(12))
		for i := range l {
			l[i] = lexer.Token{Kind: random.Intn(6) - 1, Text: texts[random.Intn(len(texts))], At: random.Intn(1000) - 500}
		}
		if tree, n, e := Parse(l); e != api.OK && (len(tree) != 0 || n < 0 || n > len(l)) {
			t.Fatalf("Parse(%v) = %v, %d, %d", l, tree, n, e)
		}
	}
	for _, text := range []string{"(", "!", "-", "a", ")", "->"} {
		Parse(slices.Repeat([]lexer.Token{{Kind: lexer.Symbol, Text: text}}, 1000000))
		Parse(slices.Repeat([]lexer.Token{{Kind: lexer.Name, Text: "a"}, {Kind: lexer.Symbol, Text: text}}, 500000))
	}
}

// R1: Depth, Format and Same end without a panic for all lists, also those that Parse does not return.
func TestAnyNodes(t *testing.T) {
	random := rand.New(rand.NewSource(9))
	numbers := []int{-1 << 63, -1, 0, 0, 1, 2, 3, 4, 5, 1<<63 - 1}
	for range 100000 {
		l := make([]Node, random.Intn(8))
		for i := range l {
			l[i] = Node{Op: random.Intn(20) - 1, A: numbers[random.Intn(10)], B: numbers[random.Intn(10)], Name: "a", Value: api.Value{Hi: random.Uint64()}}
		}
		Depth(l)
		Format(l)
		if !Same(l, l) {
			t.Fatalf("%v is not the same as itself", l)
		}
	}
	for _, op := range []int{-1 << 63, -1, 0, Num, Not, Add, Implies, Implies + 1, 1<<63 - 1} {
		for _, n := range []int{1, 120, 121, 1000000} {
			l := make([]Node, n)
			for i := range l {
				l[i] = node(op, i-1, i-1)
			}
			Depth(l)
			Format(l)
			for i := range l {
				l[i] = node(op, n-1, n-1)
			}
			Depth(l)
			Format(l)
		}
	}
}

// R3: arguments are not modified, and results share no memory with them or with each other.
func TestFresh(t *testing.T) {
	const s = "abc::def <= 0x1f && !ghi -> true"
	l := scan(t, s)
	first, _, _ := Parse(l)
	second, _, _ := Parse(l)
	if !slices.Equal(l, scan(t, s)) {
		t.Errorf("Parse changed the tokens to %v", l)
	}
	want := slices.Clone(second)
	for i, n := range first {
		for _, x := range l {
			if overlap(n.Name, x.Text) || overlap(n.Attr, x.Text) {
				t.Errorf("the node %v shares memory with a token", n)
			}
		}
		if overlap(n.Name, second[i].Name) || overlap(n.Attr, second[i].Attr) {
			t.Errorf("the node %v shares memory", n)
		}
		first[i] = Node{Op: 99}
	}
	if again, _, _ := Parse(l); !slices.Equal(second, want) || !slices.Equal(again, want) {
		t.Errorf("the change of a result made others %v, %v", second, again)
	}
	Depth(second)
	Format(second)
	Same(second, want)
	if !slices.Equal(second, want) {
		t.Errorf("a tree was changed to %v", second)
	}
	single := []Node{v(strings.Clone("abc"))}
	if overlap(Format(single), single[0].Name) {
		t.Error("Format shares memory with a node")
	}
}

// overlap reports whether two texts have a byte of memory in common.
func overlap(a, b string) bool {
	begin := func(s string) uintptr { return uintptr(unsafe.Pointer(unsafe.StringData(s))) }
	return begin(a) < begin(b)+uintptr(len(b)) && begin(b) < begin(a)+uintptr(len(a))
}
