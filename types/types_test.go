package types

import (
	"math/rand"
	"slices"
	"strings"
	"testing"
	"unsafe"

	"matchguard/api"
	"matchguard/syntax"
)

// key returns a key of a kind.
func key(name string, kind int) api.Key { return api.Key{Name: name, Field: 3, Kind: kind} }

// list returns the variables with these names, such as "a::value a priority".
func list(names string) []Var {
	var l []Var
	for _, s := range strings.Fields(names) {
		name, attr, _ := strings.Cut(s, "::")
		l = append(l, Var{name, attr})
	}
	return l
}

// P8.1 TableVars
func TestTableVars(t *testing.T) {
	for _, x := range []struct {
		keys []api.Key
		want string
	}{
		{nil, "priority"},
		{[]api.Key{key("a", api.Exact)}, "a a::value priority"},
		{[]api.Key{key("a", api.LPM)}, "a::value a::prefix_length priority"},
		{[]api.Key{key("a", api.Ternary)}, "a::value a::mask priority"},
		{[]api.Key{key("a", api.Range)}, "a::low a::high priority"},
		{[]api.Key{key("d", api.Range), key("c", api.Ternary), key("b", api.LPM), key("a", api.Exact)}, "d::low d::high c::value c::mask b::value b::prefix_length a a::value priority"},
		{[]api.Key{key("b", api.Exact), key("a", api.Exact), key("c", api.Exact)}, "b b::value a a::value c c::value priority"},
		// Other kinds have no variables; the keys behind them have.
		{[]api.Key{key("a", 0)}, "priority"},
		{[]api.Key{key("a", 5), key("b", -1), key("c", 1<<63-1), key("d", -1<<63), key("e", api.LPM)}, "e::value e::prefix_length priority"},
		// The names may be those of no schema that is well-formed.
		{[]api.Key{key("priority", api.Exact), key("a", api.Range), key("a", api.Range)}, "priority priority::value a::low a::high a::low a::high priority"},
	} {
		if l := TableVars(api.Table{ID: 7, Name: "t", Keys: x.keys, Restriction: "x"}); !slices.Equal(l, list(x.want)) {
			t.Errorf("TableVars of the keys %v = %v", x.keys, l)
		}
	}
	if l := TableVars(api.Table{Keys: []api.Key{{Kind: api.Exact}}}); !slices.Equal(l, []Var{{}, {Attr: "value"}, {Name: "priority"}}) {
		t.Errorf("TableVars of a key without a name = %v", l)
	}
}

// P8.1 ActionVars
func TestActionVars(t *testing.T) {
	for _, x := range []struct {
		params []api.Param
		want   string
	}{
		{nil, ""},
		{[]api.Param{{Name: "p"}}, "p"},
		{[]api.Param{{Name: "q", Bits: 128}, {Name: "p", Bits: 1}, {Name: "r"}, {Name: "q", Bits: -1}}, "q p r q"},
	} {
		if l := ActionVars(api.Action{ID: 7, Name: "act", Params: x.params, Restriction: "x"}); !slices.Equal(l, list(x.want)) {
			t.Errorf("ActionVars of %v = %v", x.params, l)
		}
	}
}

const sample = "e e::value l::value l::prefix_length t::value t::mask r::low r::high priority"

// P8.1 Check and Compile, of trees without errors
func TestAccepted(t *testing.T) {
	for _, s := range []string{
		"true", "false", "!true", "!!false", "(true)",
		"e == 1", "e != 1", "e < 1", "e <= 1", "e > 1", "e >= 1", "1 == 1", "-e == -1", "--e < 1",
		"e + 1 == 2", "1 - e < l::value + 3 - priority", "-(e + 1) == 1 - -e",
		"e == e::value", "l::value > 3 && l::prefix_length >= 8", "t::value == t::mask", "r::low <= r::high", "priority > 0",
		"true == false", "true != false", "(e == 1) == (priority == 1)", "(e < 1) != true", "(!true) == (true && false)", "(true -> false) == false",
		"true && e == 1", "e == 1 || false", "e == 1 -> false", "!(e == 1) -> e > 1 || e < 1 && true",
	} {
		tree, code := parse(s)
		if code != api.OK {
			t.Fatalf("%q is no sentence", s)
		}
		if n, e := Check(tree, list(sample)); n != 0 || e != api.OK {
			t.Errorf("Check of %q = %d, %d", s, n, e)
		}
		if l, e := Compile(s, list(sample)); !slices.Equal(l, tree) || e != api.OK {
			t.Errorf("Compile(%q) = %v, %d", s, l, e)
		}
	}
}

// P8.1 Check and Compile, of trees with an error
func TestRefused(t *testing.T) {
	const unknown, wrong = api.ErrUnknown, api.ErrType
	for _, x := range []struct {
		s    string
		at   int
		code api.Errno
	}{
		// A variable has its name and its attribute, no others.
		{"x == 1", 0, unknown}, {"1 == x", 1, unknown}, {"x", 0, unknown}, {"e::mask > 0", 0, unknown}, {"e::low > 0", 0, unknown}, {"l > 0", 0, unknown}, {"l::mask > 0", 0, unknown}, {"t::prefix_length > 0", 0, unknown}, {"r::value > 0", 0, unknown}, {"r > 0", 0, unknown}, {"priority::value > 0", 0, unknown}, {"x::value > 0", 0, unknown}, {"value > 0", 0, unknown}, {"ee > 0", 0, unknown}, {"e::values > 0", 0, unknown}, {"e::true > 0", 0, unknown},
		// Operands that are no numbers
		{"-true == 1", 1, wrong}, {"true + 1 == 1", 2, wrong}, {"1 + true == 1", 2, wrong}, {"true - 1 == 1", 2, wrong}, {"1 - (1 < 2) == 1", 4, wrong}, {"true < 1", 2, wrong}, {"1 < true", 2, wrong}, {"true <= 1", 2, wrong}, {"1 <= true", 2, wrong}, {"true > 1", 2, wrong}, {"1 > true", 2, wrong}, {"true >= 1", 2, wrong}, {"1 >= true", 2, wrong}, {"true < false", 2, wrong}, {"(1 == 2) <= (1 != 2)", 6, wrong}, {"true > true", 2, wrong}, {"(!true) >= false", 3, wrong},
		// Operands that are no truths
		{"!1", 1, wrong}, {"!e", 1, wrong}, {"!-e", 2, wrong}, {"!(1 + 1)", 3, wrong}, {"1 && true", 2, wrong}, {"true && 1", 2, wrong}, {"e || true", 2, wrong}, {"true || e", 2, wrong}, {"e -> true", 2, wrong}, {"true -> e", 2, wrong}, {"1 && 1", 2, wrong}, {"1 || 1", 2, wrong}, {"1 -> 1", 2, wrong}, {"true && -1", 3, wrong}, {"1 - 1 || true", 4, wrong},
		// Operands of different types
		{"1 == true", 2, wrong}, {"true == 1", 2, wrong}, {"e != true", 2, wrong}, {"false != e", 2, wrong}, {"(e == 1) == 1", 4, wrong}, {"-1 != (true == true)", 5, wrong}, {"1 + 1 == (1 < 1)", 6, wrong},
		// Only the root is wrong.
		{"1", 0, wrong}, {"e", 0, wrong}, {"-1", 1, wrong}, {"e + 1", 2, wrong}, {"e - e", 2, wrong}, {"-(e + 1)", 3, wrong},
		// The first node counts, not the first operand, nor the first kind of error.
		{"!1 && x == 1", 1, wrong}, {"x == 1 && !1", 0, unknown}, {"e && (x == 1)", 1, unknown}, {"x && y", 0, unknown}, {"e == 1 && y", 3, unknown}, {"1 && true || x == 1", 2, wrong}, {"true -> !(true + 1)", 3, wrong}, {"-true + -x == 1", 1, wrong}, {"!1 -> !2", 1, wrong}, {"x + 1", 0, unknown}, {"true + 1", 2, wrong},
	} {
		tree, code := parse(x.s)
		if code != api.OK {
			t.Fatalf("%q is no sentence", x.s)
		}
		if n, e := Check(tree, list(sample)); n != x.at || e != x.code {
			t.Errorf("Check of %q = %d, %d", x.s, n, e)
		}
		if l, e := Compile(x.s, list(sample)); len(l) != 0 || e != x.code {
			t.Errorf("Compile(%q) = %v, %d", x.s, l, e)
		}
	}
	for _, l := range [][]syntax.Node{nil, {}} {
		if n, e := Check(l, list(sample)); n != 0 || e != wrong {
			t.Errorf("Check of no nodes = %d, %d", n, e)
		}
	}
}

// P8.1, the examples
func TestExamples(t *testing.T) {
	vars := TableVars(api.Table{Keys: []api.Key{key("a", api.Exact)}})
	tree, _ := parse("a + 1")
	if n, e := Check(tree, vars); n != 2 || e != api.ErrType {
		t.Errorf("Check of %q = %d, %d", "a + 1", n, e)
	}
	tree, _ = parse("a::mask > 0")
	if n, e := Check(tree, vars); n != 0 || e != api.ErrUnknown {
		t.Errorf("Check of %q = %d, %d", "a::mask > 0", n, e)
	}
}

// P8.1, P8.2, Check of all small trees
func TestSmall(t *testing.T) {
	random := rand.New(rand.NewSource(1))
	variable := func(name, attr string) syntax.Node { return syntax.Node{Op: syntax.Var, Name: name, Attr: attr} }
	all := []syntax.Node{{Op: syntax.Num}, {Op: syntax.Bool, Value: api.Value{Lo: 1}}, variable("a", ""), variable("b", "mask"), variable("a", "mask")}
	seen := map[api.Errno]int{}
	for size, trees := range small(all, 5) {
		for _, tree := range trees {
			seen[checked(t, random, tree, list("a b::mask priority"))]++
			if size > 4 {
				continue
			}
			if again, e := parse(syntax.Format(tree)); e != api.OK || !syntax.Same(again, tree) {
				t.Fatalf("%v is no tree of Parse: %v, %d", tree, again, e)
			}
			checked(t, random, tree, nil)
		}
	}
	if len(seen) != 3 || seen[api.OK] < 1000 || seen[api.ErrType] < 1000 || seen[api.ErrUnknown] < 1000 {
		t.Errorf("the errors were %v", seen)
	}
}

// P8.1, P8.2, Check and Compile of long sentences
func TestLong(t *testing.T) {
	random := rand.New(rand.NewSource(2))
	vars := list("a a::value b::low b::high priority")
	seen := map[api.Errno]int{}
	for range 20000 {
		s := sentences{random, 5 + random.Intn(200)}.truth(random.Intn(60))
		tree, code := parse(s)
		if code == api.OK {
			code = checked(t, random, tree, vars)
		}
		if code != api.OK {
			tree = nil
		}
		if l, e := Compile(s, vars); !slices.Equal(l, tree) || e != code {
			t.Fatalf("Compile(%q) = %v, %d; want %v, %d", s, l, e, tree, code)
		}
		seen[code]++
	}
	for _, code := range []api.Errno{api.OK, api.ErrType, api.ErrUnknown, api.ErrLimit} {
		if seen[code] < 200 { // the sentences test less than they are to
			t.Errorf("the errors were %v", seen)
		}
	}
}

// P8.1 Compile, of texts that are no restrictions; the first error of the list is returned
func TestCompileErrors(t *testing.T) {
	again := strings.Repeat
	for _, x := range []struct {
		s    string
		code api.Errno
	}{
		{" ", api.ErrParse}, {again(" ", 400), api.ErrParse}, {"()", api.ErrParse}, {"e ==", api.ErrParse}, {"e == 1 == 1", api.ErrParse}, {"$", api.ErrParse}, {"E == 1", api.ErrParse}, {"e = 1", api.ErrParse}, {"e == 0x", api.ErrParse}, {"_e == 1", api.ErrParse}, {"true\n", api.ErrParse}, {"true\x00", api.ErrParse}, {"\xff", api.ErrParse},
		{again(" ", 401), api.ErrLimit}, {again(" ", 397) + "true", api.ErrLimit}, {again(" ", 396) + "true", api.OK}, {again("$", 401), api.ErrLimit}, {again("(", 500), api.ErrLimit},
		{again("!", 13) + "true", api.ErrDepth}, {again("!", 12) + "true", api.OK}, {again("1+", 59) + "1 < 1", api.ErrDepth}, {again("1+", 58) + "1 < 1", api.OK}, {again("!", 13) + "x", api.ErrDepth}, {again("!", 13) + "1", api.ErrDepth}, {again("x+", 60) + "x", api.ErrDepth},
		{"x == 1 $", api.ErrParse}, {"x 1", api.ErrParse}, {"1 true", api.ErrParse}, {again("!", 13) + "true $", api.ErrParse}, {again("!", 13) + "true true", api.ErrParse},
		{"x == 1", api.ErrUnknown}, {"1 + 1", api.ErrType}, {again("!", 12) + "1", api.ErrType}, {again("!", 12) + "x", api.ErrUnknown},
	} {
		tree, _ := parse(x.s)
		if x.code != api.OK {
			tree = nil
		}
		if l, e := Compile(x.s, list(sample)); !slices.Equal(l, tree) || e != x.code {
			t.Errorf("Compile(%q) = %v, %d", x.s, l, e)
		}
	}
}

// P8.1 Compile, of the empty text
func TestCompileEmpty(t *testing.T) {
	for _, vars := range [][]Var{nil, {}, list(sample)} {
		if l, e := Compile("", vars); !slices.Equal(l, []syntax.Node{{Op: syntax.Bool, Value: api.Value{Lo: 1}}}) || e != api.OK {
			t.Errorf("Compile of the empty text = %v, %d", l, e)
		}
	}
}

// P8.1 All
func TestAll(t *testing.T) {
	table := func(s string) api.Table {
		return api.Table{Keys: []api.Key{key("a", api.Exact), key("m", api.Ternary)}, Restriction: s}
	}
	other := func(s string) api.Table {
		return api.Table{Keys: []api.Key{key("b", api.LPM), key("r", api.Range)}, Restriction: s}
	}
	action := func(s string) api.Action {
		return api.Action{Params: []api.Param{{Name: "p", Bits: 8}, {Name: "q", Bits: 8}}, Restriction: s}
	}
	deep, long := strings.Repeat("!", 13)+"true", strings.Repeat(" ", 401)
	type tables = []api.Table
	type actions = []api.Action
	for i, x := range []struct {
		tables  tables
		actions actions
		code    api.Errno
	}{
		{nil, nil, api.OK},
		{tables{table("")}, actions{action("")}, api.OK},
		{tables{table("a == a::value && m::mask > 0 && priority > 0"), other("b::prefix_length > 8 -> r::low < r::high")}, actions{action("p < q"), action("true")}, api.OK},
		// The variables are those of the table or the action.
		{tables{table("b::value == 1"), other("")}, nil, api.ErrUnknown},
		{tables{table(""), other("a == 1")}, nil, api.ErrUnknown},
		{tables{table("p == 1")}, actions{action("")}, api.ErrUnknown},
		{tables{table("")}, actions{action("a == 1")}, api.ErrUnknown},
		{tables{table("")}, actions{action("priority == 1")}, api.ErrUnknown},
		{nil, actions{action("p::value == 1")}, api.ErrUnknown},
		{nil, actions{{Restriction: "p == 1"}, action("")}, api.ErrUnknown},
		{nil, actions{action(""), {Restriction: "p == 1"}}, api.ErrUnknown},
		{nil, actions{action("p == 1"), {Params: []api.Param{{Name: "r"}}, Restriction: "r == 1"}}, api.OK},
		// Every table and every action counts, the first one with an error most.
		{tables{table("$"), other("b == 1")}, nil, api.ErrParse},
		{tables{table("x == 1"), other("$")}, nil, api.ErrUnknown},
		{tables{table(""), other("r::low"), table(deep)}, nil, api.ErrType},
		{tables{table("true"), other("true"), table(deep)}, nil, api.ErrDepth},
		{tables{table(long), other(deep)}, nil, api.ErrLimit},
		{nil, actions{action("p"), action("x == 1")}, api.ErrType},
		{nil, actions{action(""), action(""), action(long)}, api.ErrLimit},
		// Tables come first.
		{tables{table(""), other(deep)}, actions{action("$")}, api.ErrDepth},
		{tables{table("1")}, actions{action("x == 1")}, api.ErrType},
		{tables{table("true")}, actions{action("!x"), action("1")}, api.ErrUnknown},
	} {
		if e := All(api.Schema{Tables: x.tables, Actions: x.actions}); e != x.code {
			t.Errorf("All of the schema %d = %d, want %d", i, e, x.code)
		}
	}
}

// R1: Check ends without a panic for all lists, also those that Parse does not return.
func TestAnyNodes(t *testing.T) {
	random := rand.New(rand.NewSource(3))
	numbers := []int{-1 << 63, -1, 0, 0, 1, 2, 3, 4, 5, 1<<63 - 1}
	for range 100000 {
		l := make([]syntax.Node, random.Intn(8))
		for i := range l {
			l[i] = syntax.Node{Op: random.Intn(20) - 1, A: numbers[random.Intn(10)], B: numbers[random.Intn(10)], Name: "a"}
		}
		if n, e := Check(l, list("a")); n < 0 || n > len(l) || e == api.OK && n != 0 {
			t.Fatalf("Check(%v) = %d, %d", l, n, e)
		}
	}
	for _, op := range []int{-1 << 63, -1, 0, syntax.Implies + 1, 1<<63 - 1} {
		Check([]syntax.Node{{Op: op}, {Op: syntax.Not}}, nil)
		Check([]syntax.Node{{Op: op}}, nil)
	}
}

// R3: arguments are not modified, and results share no memory with them or with each other.
func TestFresh(t *testing.T) {
	table := api.Table{Keys: []api.Key{key(strings.Clone("alpha"), api.Exact), key(strings.Clone("beta"), api.Range)}}
	action := api.Action{Params: []api.Param{{Name: strings.Clone("gamma")}}}
	for i, v := range append(TableVars(table), ActionVars(action)...) {
		for _, name := range []string{table.Keys[0].Name, table.Keys[1].Name, action.Params[0].Name} {
			if overlap(v.Name, name) {
				t.Errorf("the variable %d shares memory with a name", i)
			}
		}
	}
	clear(TableVars(table))
	clear(ActionVars(action))
	if l := TableVars(table); !slices.Equal(l, list("alpha alpha::value beta::low beta::high priority")) {
		t.Errorf("the change of a result made another one %v", l)
	}
	vars := list(sample)
	for _, s := range []string{"", "e + 1 == 2"} {
		first, _ := Compile(s, vars)
		second, _ := Compile(s, vars)
		want := slices.Clone(second)
		clear(first)
		third, _ := Compile(s, vars)
		if !slices.Equal(second, want) || !slices.Equal(third, want) {
			t.Errorf("the change of a result of Compile(%q) made others %v, %v", s, second, third)
		}
		Check(second, vars)
		if !slices.Equal(second, want) || !slices.Equal(vars, list(sample)) {
			t.Errorf("arguments became %v, %v", second, vars)
		}
	}
}

// overlap reports whether two texts have a byte of memory in common.
func overlap(a, b string) bool {
	begin := func(s string) uintptr { return uintptr(unsafe.Pointer(unsafe.StringData(s))) }
	return begin(a) < begin(b)+uintptr(len(b)) && begin(b) < begin(a)+uintptr(len(a))
}
