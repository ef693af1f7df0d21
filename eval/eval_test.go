package eval

import (
	"math"
	"math/rand"
	"slices"
	"strconv"
	"strings"
	"testing"
	"unsafe"

	"matchguard/api"
	"matchguard/check"
	"matchguard/syntax"
	"matchguard/types"
)

// sample is a schema with tables of all kinds of keys, and actions with and without parameters.
func sample() api.Schema {
	fields := []api.Field{{ID: 1, Name: "in", Bits: 16}, {ID: 2, Name: "out", Bits: 16}, {ID: 3, Name: "one", Bits: 1}, {ID: 4, Name: "word", Bits: 32}, {ID: 5, Name: "all", Bits: 128}, {ID: 6, Name: "long", Bits: 64}}
	return api.Schema{
		Fields: fields,
		Actions: []api.Action{
			{ID: 20, Name: "plain"},
			{ID: 21, Name: "bound", Params: []api.Param{{Name: "p", Bits: 32}, {Name: "q", Bits: 128}}, Restriction: "p < q"},
			{ID: 22, Name: "never", Restriction: "false"},
			{ID: 23, Name: "free", Params: []api.Param{{Name: "p", Bits: 32}}},
		},
		Tables: []api.Table{
			{ID: 10, Name: "mixed", Keys: []api.Key{{Name: "e", Field: 4, Kind: api.Exact}, {Name: "l", Field: 4, Kind: api.LPM}, {Name: "t", Field: 5, Kind: api.Ternary}, {Name: "r", Field: 5, Kind: api.Range}}, Actions: []int{20, 21, 22, 23}, Default: 20, Size: 8, Restriction: "e == 1 && (l::prefix_length >= 8 -> l::value > 0) && t::mask >= t::value && r::low + 1 <= r::high && priority != 7"},
			{ID: 11, Name: "free", Keys: []api.Key{{Name: "e", Field: 4, Kind: api.Exact}}, Actions: []int{20, 21}, Default: 20, Size: 8},
			{ID: 12, Name: "closed", Keys: []api.Key{{Name: "e", Field: 4, Kind: api.Exact}}, Actions: []int{20}, Default: 20, Size: 8, Restriction: "false"},
			{ID: 13, Name: "wide", Keys: []api.Key{{Name: "r", Field: 6, Kind: api.Range}, {Name: "one", Field: 3, Kind: api.Range}}, Actions: []int{20}, Default: 20, Size: 8, Restriction: "r::high == 0xffffffffffffffff && one::high == 1"},
		},
		MaxBatch: 4, Budget: 50,
	}
}

func TestSample(t *testing.T) {
	if s := sample(); check.Check(s) != api.OK || types.All(s) != api.OK {
		t.Errorf("the schema has the errors %d, %d", check.Check(s), types.All(s))
	}
}

// bindings returns bindings that are written as in "a::value=7 priority=0"; x stands for 2^128 - 1.
func bindings(t *testing.T, text string) []Binding {
	t.Helper()
	var l []Binding
	for _, s := range strings.Fields(text) {
		name, number, _ := strings.Cut(s, "=")
		v := ones
		if number != "x" {
			n, err := strconv.ParseUint(number, 10, 64)
			if err != nil {
				t.Fatal(err)
			}
			v = of(n)
		}
		l = append(l, binding(name, v))
	}
	return l
}

// P9.1 Bind
func TestBind(t *testing.T) {
	key := func(name string, kind, field int) api.Key { return api.Key{Name: name, Kind: kind, Field: field} }
	e, l, m, r := key("e", api.Exact, 4), key("l", api.LPM, 4), key("t", api.Ternary, 4), key("r", api.Range, 4)
	full := func(n uint64) api.Match {
		return api.Match{Present: true, Value: of(n), Mask: of(n + 1), Prefix: int(n + 2), High: of(n + 3)}
	}
	absent := full(10)
	absent.Present = false
	type keys = []api.Key
	type matches = []api.Match
	for i, x := range []struct {
		keys     keys
		matches  matches
		priority int
		want     string
	}{
		// Each variable is another part of the match of its key.
		{keys{e}, matches{full(10)}, 5, "e=10 e::value=10 priority=5"},
		{keys{l}, matches{full(10)}, 0, "l::value=10 l::prefix_length=12 priority=0"},
		{keys{m}, matches{full(10)}, 1, "t::value=10 t::mask=11 priority=1"},
		{keys{r}, matches{full(10)}, 65535, "r::low=10 r::high=13 priority=65535"},
		{keys{r, e, m, l}, matches{full(10), full(20), full(30), full(40)}, 2, "r::low=10 r::high=13 e=20 e::value=20 t::value=30 t::mask=31 l::value=40 l::prefix_length=42 priority=2"},
		{keys{e}, matches{{Present: true, Value: ones}}, 0, "e=x e::value=x priority=0"},
		{keys{r}, matches{{Present: true, Value: ones, High: ones}}, 0, "r::low=x r::high=x priority=0"},
		{keys{r}, matches{{Present: true}}, 0, "r::low=0 r::high=0 priority=0"},
		{keys{m}, matches{{Present: true, Value: ones, Mask: ones}}, 0, "t::value=x t::mask=x priority=0"},
		{nil, nil, 3, "priority=3"},
		{nil, matches{full(10)}, math.MaxInt, "priority=9223372036854775807"},
		// Matches that are not present, or do not exist
		{keys{e, l, m, r}, matches{{}, {}, {}, {}}, 0, "e=0 e::value=0 l::value=0 l::prefix_length=0 t::value=0 t::mask=0 r::low=0 r::high=4294967295 priority=0"},
		{keys{e, l, m, r}, nil, 0, "e=0 e::value=0 l::value=0 l::prefix_length=0 t::value=0 t::mask=0 r::low=0 r::high=4294967295 priority=0"},
		{keys{e, r, l}, matches{full(10)}, 0, "e=10 e::value=10 r::low=0 r::high=4294967295 l::value=0 l::prefix_length=0 priority=0"},
		{keys{e, r}, matches{full(10), full(20), full(30)}, 0, "e=10 e::value=10 r::low=20 r::high=23 priority=0"},
		{keys{e, l, m, r}, matches{absent, absent, absent, absent}, 0, "e=10 e::value=10 l::value=10 l::prefix_length=12 t::value=10 t::mask=11 r::low=10 r::high=4294967295 priority=0"},
		// "high" has the bits of the key's own field.
		{keys{key("a", api.Range, 3), key("b", api.Range, 1), key("c", api.Range, 5), key("d", api.Range, 4)}, nil, 0, "a::low=0 a::high=1 b::low=0 b::high=65535 c::low=0 c::high=x d::low=0 d::high=4294967295 priority=0"},
		{keys{key("a", api.Range, 0), key("b", api.Range, 77), key("c", api.Range, -1), key("d", api.Range, 7)}, nil, 0, "a::low=0 a::high=0 b::low=0 b::high=0 c::low=0 c::high=0 d::low=0 d::high=0 priority=0"},
		{keys{key("a", api.Range, 77)}, matches{full(10)}, 0, "a::low=10 a::high=13 priority=0"},
		// Negative numbers count as 0.
		{keys{l}, matches{{Present: true, Value: of(1), Prefix: -1}}, -1, "l::value=1 l::prefix_length=0 priority=0"},
		{keys{l}, matches{{Prefix: math.MinInt}}, math.MinInt, "l::value=0 l::prefix_length=0 priority=0"},
		{keys{l}, matches{{Prefix: math.MaxInt}}, 65536, "l::value=0 l::prefix_length=9223372036854775807 priority=65536"},
		// A key without variables has a match like all others.
		{keys{key("a", 0, 4), l, key("b", 5, 4), key("c", -1, 4), r}, matches{full(10), full(20), full(30), full(40), full(50)}, 0, "l::value=20 l::prefix_length=22 r::low=50 r::high=53 priority=0"},
		// Names that a schema may not have
		{keys{key("priority", api.Exact, 4), e, e}, matches{full(10), full(20), full(30)}, 4, "priority=10 priority::value=10 e=20 e::value=20 e=30 e::value=30 priority=4"},
		{keys{key("mask", api.LPM, 4), key("high", api.Exact, 4), key("prefix_length", api.Exact, 4)}, matches{full(10), full(20), full(30)}, 4, "mask::value=10 mask::prefix_length=12 high=20 high::value=20 prefix_length=30 prefix_length::value=30 priority=4"},
	} {
		// Neither the ID of the table counts, nor the action.
		entry := api.Entry{Table: 99, Matches: x.matches, Priority: x.priority, Action: 21, Args: []api.Value{of(1)}}
		table := api.Table{ID: 10, Keys: x.keys, Restriction: "x"}
		if b := Bind(sample(), table, entry); !slices.Equal(b, bindings(t, x.want)) {
			t.Errorf("Bind of the entry %d = %v", i, b)
		}
		if vars := varsOf(Bind(sample(), table, entry)); !slices.Equal(vars, types.TableVars(table)) {
			t.Errorf("Bind of the entry %d has the variables %v", i, vars)
		}
	}
}

// P9.1 Bind, for fields that a schema may not have
func TestBindFields(t *testing.T) {
	table := api.Table{Keys: []api.Key{{Name: "r", Field: 3, Kind: api.Range}}}
	for _, x := range []struct {
		fields []api.Field
		high   string
	}{
		{nil, "0"},
		{[]api.Field{{ID: 4, Bits: 7}}, "0"},
		{[]api.Field{{ID: 4, Bits: 7}, {ID: 3, Bits: 8}, {ID: 3, Bits: 9}}, "255"},
		{[]api.Field{{ID: 3, Bits: 0}}, "0"}, {[]api.Field{{ID: 3, Bits: -1}}, "0"}, {[]api.Field{{ID: 3, Bits: math.MinInt}}, "0"},
		{[]api.Field{{ID: 3, Bits: 128}}, "x"}, {[]api.Field{{ID: 3, Bits: 129}}, "x"}, {[]api.Field{{ID: 3, Bits: math.MaxInt}}, "x"},
	} {
		want := bindings(t, "r::low=0 r::high="+x.high+" priority=0")
		if b := Bind(api.Schema{Fields: x.fields}, table, api.Entry{}); !slices.Equal(b, want) {
			t.Errorf("Bind with the fields %v = %v", x.fields, b)
		}
	}
}

// P9.1 BindArgs
func TestBindArgs(t *testing.T) {
	for _, x := range []struct {
		names string
		args  []api.Value
		want  string
	}{
		{"", nil, ""},
		{"", []api.Value{of(1)}, ""},
		{"p", []api.Value{of(1)}, "p=1"},
		{"p", nil, "p=0"},
		{"p q r", []api.Value{of(3), ones, of(2)}, "p=3 q=x r=2"},
		{"q p r", []api.Value{of(3), of(1)}, "q=3 p=1 r=0"},
		{"p q", []api.Value{of(1), of(2), of(3)}, "p=1 q=2"},
		{"p p priority", []api.Value{of(1), of(2), of(3)}, "p=1 p=2 priority=3"},
	} {
		a := api.Action{ID: 20, Name: "a", Restriction: "x"}
		for _, name := range strings.Fields(x.names) {
			a.Params = append(a.Params, api.Param{Name: name, Bits: 1})
		}
		if b := BindArgs(a, x.args); !slices.Equal(b, bindings(t, x.want)) {
			t.Errorf("BindArgs(%q, %v) = %v", x.names, x.args, b)
		}
	}
}

// variables are bindings of which the last two are behind another one of the same variable.
func variables() []Binding {
	l := []Binding{binding("zero", of(0)), binding("a", of(5)), binding("a::value", of(6)), binding("value", of(7)), binding("value::a", of(8)), binding("most", ones), binding("most::high", power(127)), binding("half", power(64))}
	return append(l, binding("a", of(9)), binding("most::high", of(10)))
}

// P9.1 Holds
func TestHolds(t *testing.T) {
	for _, s := range []string{
		"", "true", "true == true", "false == false", "true != false", "!false", "!!true",
		// A variable is its first binding, with its name and its attribute.
		"a == 5", "a::value == 6", "value == 7", "value::a == 8", "most::high == 0x80000000000000000000000000000000", "zero == 0", "most == 0xffffffffffffffffffffffffffffffff", "half == 18446744073709551616",
		// Sums, grouped from the left
		"a + 1 == 6", "a - 1 == 4", "1 - a == -4", "10 - 4 - 3 == 3", "10 - (4 - 3) == 9", "10 - 4 + 3 == 9", "-a + 10 == 5", "--a == a", "---a == -a", "-(a + 1) == -6", "-zero == 0", "a - a == 0",
		// No number of bits is a bound.
		"most + 1 > most", "most + 1 != 0", "most + most - most == most", "most::high + most::high == most + 1", "-most - most - most < -most - most", "half - 1 + 1 == half", "zero - 1 < 0", "0 - 1 != most", "-1 == zero - 1", "most - (most + 1) == -1", "-half != half", "-most::high < most::high", "-most::high != most::high",
		"a < 6", "!(a < 5)", "!(a < 4)", "a <= 5", "a <= 6", "!(a <= 4)", "a > 4", "!(a > 5)", "!(a > 6)", "a >= 5", "a >= 4", "!(a >= 6)", "a != 4", "!(a != 5)", "!(a == 4)",
		"-2 < -1", "!(-1 < -2)", "-1 < 0", "-1 <= -1", "-1 >= -2", "-1 > -2", "most > half", "half < most", "-most < -half", "-half > -most",
		// Equations of truths
		"(a == 5) == (value == 7)", "(a == 5) != (value == 8)", "(a == 4) == (value == 8)", "(a < 6) == true", "(a < 5) != true",
		// "->" is grouped from the right.
		"false -> false -> false", "!((false -> false) -> false)", "true -> false -> false", "a == 1 -> false", "true || true && false", "!((true || true) && false)", "false && false || true", "!(!false && false)",
	} {
		b := variables()
		if !Holds(compile(t, s, b), b) {
			t.Errorf("%q does not hold", s)
		}
		if s != "" && Holds(compile(t, "!("+s+")", b), b) {
			t.Errorf("the contrary of %q holds", s)
		}
	}
}

// P9.1, the operations of logic, for all truths
func TestLogic(t *testing.T) {
	names := map[bool]string{true: "true", false: "false"}
	for _, a := range []bool{true, false} {
		if Holds(compile(t, "!"+names[a], nil), nil) == a {
			t.Errorf("Not of %v", a)
		}
		for _, b := range []bool{true, false} {
			for op, want := range map[string]bool{"&&": a && b, "||": a || b, "->": b || !a, "==": a == b, "!=": a != b} {
				if s := names[a] + op + names[b]; Holds(compile(t, s, nil), nil) != want {
					t.Errorf("%q", s)
				}
			}
		}
	}
}

// P9.1, the longest sums that a restriction can have
func TestLongSums(t *testing.T) {
	b := variables()
	for _, s := range []string{
		strings.Repeat("most+", 57) + "most > most",
		strings.Repeat("most+", 29) + "most" + strings.Repeat("-most", 28) + " == most + most",
		"0" + strings.Repeat("-most", 57) + " < -most",
		"0" + strings.Repeat("-most", 28) + strings.Repeat("+most", 29) + " == most",
		"most::high" + strings.Repeat("+most::high", 15) + " == most+most+most+most+most+most+most+most+8",
	} {
		if !Holds(compile(t, s, b), b) {
			t.Errorf("%q does not hold", s)
		}
	}
}

// value returns a value that is small, or near a power of 2.
func (w writer) value() api.Value {
	v := power(w.random.Intn(128))
	switch w.random.Intn(4) {
	case 0:
		return of(uint64(w.random.Intn(4)))
	case 1:
		return ones
	case 2:
		return api.Value{Hi: v.Hi, Lo: v.Lo | 1}
	}
	return v
}

// bindings returns bindings of a few variables; some have several.
func (w writer) bindings() []Binding {
	var b []Binding
	for range 1 + w.random.Intn(8) {
		b = append(b, binding(w.pick("a a::value a::mask b b::value c"), w.value()))
	}
	return b
}

// P9.1, against an evaluation of the texts
func TestMeaning(t *testing.T) {
	w := writer{random: rand.New(rand.NewSource(1))}
	seen := map[bool]int{}
	longest := 0
	for range 60000 {
		w.b = w.bindings()
		x := w.truth(w.random.Intn(25))
		tree, code := types.Compile(x.text, varsOf(w.b))
		if code == api.ErrLimit || code == api.ErrDepth {
			continue
		}
		if code != api.OK || Holds(tree, w.b) != x.b {
			t.Fatalf("%q with %v: %v, %d", x.text, w.b, !x.b, code)
		}
		seen[x.b]++
		longest = max(longest, len(tree))
	}
	if seen[true] < 10000 || seen[false] < 10000 || longest < 40 { // the sentences test less than they are to
		t.Errorf("%v, of up to %d nodes", seen, longest)
	}
}

// replaced puts truths for P, Q and R, and numbers for A, B and C, into a law.
func replaced(law string, truths, numbers []sentence) string {
	r := strings.NewReplacer("P", truths[0].inside(), "Q", truths[1].inside(), "R", truths[2].inside(), "A", numbers[0].inside(), "B", numbers[1].inside(), "C", numbers[2].inside())
	return r.Replace(law)
}

// P9.2
func TestLaws(t *testing.T) {
	w := writer{random: rand.New(rand.NewSource(2))}
	for _, law := range []string{
		"P -> Q = !P || Q", "P = !!P", "!(P && Q) = !P || !Q", "!(P || Q) = !P && !Q", "P && Q = Q && P", "P || Q = Q || P", "P && Q && R = P && (Q && R)", "P || Q || R = P || (Q || R)", "P && (Q || R) = P && Q || P && R", "P || Q && R = (P || Q) && (P || R)", "P -> Q -> R = P && Q -> R", "P == Q = (P -> Q) && (Q -> P)", "P != Q = !(P == Q)", "P || !P = true", "P && !P = false", "P -> Q = !Q -> !P", "P == true = P", "P == false = !P",
		"A < B = !(B <= A)", "A <= B = !(B < A)", "A > B = B < A", "A >= B = B <= A", "A == B = A <= B && B <= A", "A != B = A < B || B < A", "A != B = !(A == B)", "A < B || A == B || A > B = true", "A < B && B < C -> A < C = true", "A < A = false", "A == A = true",
		"A + B < C = A < C - B", "A + B <= C = A <= C - B", "A + B == C = A == C - B", "A + B > C = A > C - B", "A - B >= C = A >= C + B", "A - B != C = A != C + B", "A < B = -B < -A", "A < B = A + C < B + C", "A - B == A + -B = true", "A + B == B + A = true", "A + B + C == A + (B + C) = true", "-(A - B) == B - A = true", "A < A + 1 = true", "A < B = A + 1 <= B",
	} {
		left, right, _ := strings.Cut(law, " = ")
		for range 150 {
			w.b = w.bindings()
			ps := []sentence{w.truth(w.random.Intn(4)), w.truth(w.random.Intn(4)), w.truth(w.random.Intn(4))}
			ns := []sentence{w.number(w.random.Intn(3)), w.number(w.random.Intn(3)), w.number(w.random.Intn(3))}
			if w.random.Intn(3) == 0 {
				ns[w.random.Intn(3)] = ns[w.random.Intn(3)]
			}
			a, code := types.Compile(replaced(left, ps, ns), varsOf(w.b))
			b, other := types.Compile(replaced(right, ps, ns), varsOf(w.b))
			if code == api.ErrLimit || other == api.ErrLimit || code == api.ErrDepth || other == api.ErrDepth {
				continue
			}
			if code != api.OK || other != api.OK || Holds(a, w.b) != Holds(b, w.b) {
				t.Fatalf("%q: %q and %q with %v", law, replaced(left, ps, ns), replaced(right, ps, ns), w.b)
			}
		}
	}
}

// present returns the match of a key with all the parts that some kinds use.
func present(v, mask api.Value, prefix int, high api.Value) api.Match {
	return api.Match{Present: true, Value: v, Mask: mask, Prefix: prefix, High: high}
}

// P9.1 Admits
func TestAdmits(t *testing.T) {
	exact := func(n uint64) api.Match { return api.Match{Present: true, Value: of(n)} }
	with := func(i int, m api.Match) api.Entry {
		e := api.Entry{Table: 10, Matches: []api.Match{exact(1), {}, {}, {}}, Priority: 1, Action: 20}
		e.Matches[i] = m
		return e
	}
	act := func(table, action int, args ...api.Value) api.Entry {
		return api.Entry{Table: table, Matches: []api.Match{exact(1)}, Action: action, Args: args}
	}
	for i, x := range []struct {
		e    api.Entry
		want bool
	}{
		// The restriction of the table
		{with(0, exact(1)), true}, {with(0, exact(2)), false}, {with(0, api.Match{}), false},
		{with(1, present(of(0), of(0), 7, of(0))), true}, {with(1, present(of(0), of(0), 8, of(0))), false}, {with(1, present(of(1), of(0), 8, of(0))), true}, {with(1, api.Match{}), true}, {with(1, present(of(0), of(0), -8, of(0))), true},
		{with(2, present(of(3), of(3), 0, of(0))), true}, {with(2, present(of(4), of(3), 0, of(0))), false}, {with(2, present(ones, ones, 0, of(0))), true},
		{with(3, present(of(3), of(0), 0, of(4))), true}, {with(3, present(of(3), of(0), 0, of(3))), false}, {with(3, present(ones, of(0), 0, ones)), false}, {with(3, present(of(0), of(0), 0, ones)), true},
		{api.Entry{Table: 10, Matches: []api.Match{exact(1)}, Priority: 7}, false}, {api.Entry{Table: 10, Matches: []api.Match{exact(1)}, Priority: 8}, true}, {api.Entry{Table: 10}, false}, {api.Entry{Table: 11}, true},
		{act(11, 20), true}, {act(12, 20), false}, {act(12, 0), false}, {act(11, 0), true},
		// The bits of the fields
		{api.Entry{Table: 13, Action: 20}, true}, {api.Entry{Table: 13, Action: 20, Matches: []api.Match{{}, present(of(0), of(0), 0, of(0))}}, false}, {api.Entry{Table: 13, Action: 20, Matches: []api.Match{present(of(0), of(0), 0, of(9)), {}}}, false},
		// The restriction of the action
		{act(11, 21, of(1), of(2)), true}, {act(11, 21, of(2), of(2)), false}, {act(11, 21, of(2), ones), true}, {act(11, 21, of(2)), false}, {act(11, 21), false}, {act(11, 21, of(1), of(2), of(0)), true},
		{act(11, 22), false}, {act(10, 22), false}, {act(10, 21, of(1), of(2)), true}, {act(10, 21, of(2), of(1)), false}, {act(12, 21, of(1), of(2)), false}, {act(10, 23, of(1)), true}, {act(10, 23), true},
		// Whether the action is among those of the table is no matter of restrictions.
		{act(11, 23, of(1)), true}, {api.Entry{Table: 13, Action: 21, Args: []api.Value{of(1), of(2)}}, true},
		// Tables and actions that do not exist
		{act(9, 20), false}, {act(14, 20), false}, {act(0, 20), false}, {act(-1, 20), false}, {act(math.MaxInt, 20), false}, {act(20, 20), false}, {act(14, 0), false}, {act(14, 24), false}, {api.Entry{}, false},
		{act(11, 24), false}, {act(11, 19), false}, {act(11, -1), false}, {act(11, 10), false}, {act(11, math.MinInt), false}, {act(12, 24), false}, {act(10, 24, of(1), of(2)), false},
	} {
		if Admits(sample(), x.e) != x.want {
			t.Errorf("Admits of the entry %d = %v", i, !x.want)
		}
	}
}

// P9.1, the example
func TestExample(t *testing.T) {
	s := sample()
	s.Tables[0].Restriction = "l::prefix_length >= 8 -> l::value > 0"
	for prefix, want := range map[int]bool{0: true, 7: true, 8: false, 32: false} {
		e := api.Entry{Table: 10, Matches: []api.Match{{}, {Present: prefix > 0, Prefix: prefix}}}
		if Admits(s, e) != want {
			t.Errorf("a prefix of %d bits: %v", prefix, !want)
		}
	}
}

// P9.1 Admits uses all that Bind and BindArgs return.
func TestAdmitsAsHolds(t *testing.T) {
	w := writer{random: rand.New(rand.NewSource(3))}
	seen := map[bool]int{}
	for range 5000 {
		s := sample()
		match := func() api.Match {
			return api.Match{Present: w.random.Intn(2) == 0, Value: w.value(), Mask: w.value(), Prefix: w.random.Intn(34) - 1, High: w.value()}
		}
		e := api.Entry{Table: 10, Matches: []api.Match{match(), match(), match(), match()}[:w.random.Intn(5)], Priority: w.random.Intn(9) - 1, Action: 21, Args: []api.Value{w.value(), w.value()}[:w.random.Intn(3)]}
		w.b = Bind(s, s.Tables[0], e)
		table := w.truth(w.random.Intn(6))
		w.b = BindArgs(s.Actions[1], e.Args)
		action := w.truth(w.random.Intn(6))
		s.Tables[0].Restriction, s.Actions[1].Restriction = table.text, action.text
		if types.All(s) != api.OK { // too long, or too deep
			continue
		}
		if want := table.b && action.b; Admits(s, e) != want {
			t.Fatalf("%q, %q, %v: %v", table.text, action.text, e, !want)
		}
		seen[table.b && action.b]++
	}
	if seen[true] < 500 || seen[false] < 500 {
		t.Errorf("the results were %v", seen)
	}
}

// R1: Admits ends without a panic for restrictions that do not compile.
func TestNoRestriction(t *testing.T) {
	for _, text := range []string{"e", "e +", "x == 1", "$", "1", "e == true", strings.Repeat("!", 500), strings.Repeat("(", 300), strings.Repeat("-", 13) + "1 == 1"} {
		s := sample()
		s.Tables[1].Restriction, s.Actions[0].Restriction = text, text
		Admits(s, api.Entry{Table: 11})
		Admits(s, api.Entry{Table: 10, Matches: []api.Match{{Present: true, Value: of(1)}}, Action: 20})
	}
	Admits(api.Schema{}, api.Entry{})
	Admits(api.Schema{Tables: []api.Table{{}}, Actions: []api.Action{{}}}, api.Entry{})
}

// R1: Holds ends without a panic for all lists, also those that Compile does not return.
func TestAnyNodes(t *testing.T) {
	random := rand.New(rand.NewSource(4))
	numbers := []int{math.MinInt, -1, 0, 0, 1, 2, 3, 4, 5, math.MaxInt}
	for range 100000 {
		l := make([]syntax.Node, random.Intn(8))
		for i := range l {
			l[i] = syntax.Node{Op: random.Intn(20) - 1, A: numbers[random.Intn(10)], B: numbers[random.Intn(10)], Name: "a", Value: of(uint64(random.Intn(3)))}
		}
		Holds(l, bindings(t, "a=x")[:random.Intn(2)])
	}
	for op := -2; op < 20; op++ {
		Holds([]syntax.Node{{Op: op}}, nil)
		Holds([]syntax.Node{{Op: syntax.Num}, {Op: op}}, nil)
		Holds([]syntax.Node{{Op: syntax.Bool}, {Op: op}}, nil)
	}
	Holds(nil, nil)
}

// R1: long lists of nodes and bindings do not take long, nor much memory for nesting.
func TestManyNodes(t *testing.T) {
	const many = 300000
	l := []syntax.Node{{Op: syntax.Var, Name: "a"}}
	var b []Binding
	for i := 1; i < many; i++ {
		op := []int{syntax.Neg, syntax.Add, syntax.Var}[i%3]
		l = append(l, syntax.Node{Op: op, A: i - 1, B: i - 1, Name: "b"})
		b = append(b, binding("a::"+strconv.Itoa(i), of(1)))
	}
	Holds(append(l, syntax.Node{Op: syntax.Less, A: many - 1}), b)
}

// R3: arguments are not modified, and results share no memory with them or with each other.
func TestFresh(t *testing.T) {
	s := sample()
	e := api.Entry{Table: 10, Matches: []api.Match{{Present: true, Value: of(1)}, {}, {}, {}}, Action: 21, Args: []api.Value{of(1), of(2)}}
	table, action := s.Tables[0], s.Actions[1]
	table.Keys = slices.Clone(table.Keys)
	table.Keys[3].Name, action.Params[0].Name = strings.Clone("range"), strings.Clone("param")
	first, second := Bind(s, table, e), Bind(s, table, e)
	args, again := BindArgs(action, e.Args), BindArgs(action, e.Args)
	for _, x := range append(slices.Clone(first), args...) {
		if overlap(x.Name, table.Keys[3].Name) || overlap(x.Name, action.Params[0].Name) {
			t.Errorf("the name of %v shares memory with an argument", x)
		}
	}
	want, wantArgs := slices.Clone(second), slices.Clone(again)
	clear(first)
	clear(args)
	if !slices.Equal(second, want) || !slices.Equal(again, wantArgs) || !slices.Equal(Bind(s, table, e), want) || !slices.Equal(BindArgs(action, e.Args), wantArgs) {
		t.Errorf("the change of results made others %v, %v", second, again)
	}
	b := variables()
	tree := compile(t, "a + 1 == 6 -> !(most < half)", b)
	nodes := slices.Clone(tree)
	Holds(tree, b)
	Admits(s, e)
	if !slices.Equal(tree, nodes) || !slices.Equal(b, variables()) {
		t.Errorf("the arguments of Holds became %v, %v", tree, b)
	}
	if m := e.Matches; len(m) != 4 || m[0] != (api.Match{Present: true, Value: of(1)}) || m[1] != (api.Match{}) || m[3] != (api.Match{}) || !slices.Equal(e.Args, []api.Value{of(1), of(2)}) {
		t.Errorf("the entry became %v", e)
	}
}

// overlap reports whether two texts have a byte of memory in common.
func overlap(a, b string) bool {
	begin := func(s string) uintptr { return uintptr(unsafe.Pointer(unsafe.StringData(s))) }
	return begin(a) < begin(b)+uintptr(len(b)) && begin(b) < begin(a)+uintptr(len(a))
}
