package entry

import (
	"math"
	"reflect"
	"slices"
	"testing"

	"matchguard/api"
)

// ascending are different entries in the canonical order. Each is equal to its neighbours but for what it shows, and where that allows it, what is behind in the order is the other way round.
func ascending() []api.Entry {
	type matches = []api.Match
	type args = []api.Value
	absent := func(m api.Match) api.Match {
		m.Present = false
		return m
	}
	full := func(low, mask api.Value, length int, high api.Value) api.Match {
		return api.Match{Present: true, Value: low, Mask: mask, Prefix: length, High: high}
	}
	wide, far := api.Value{Hi: 1}, api.Value{Lo: math.MaxUint64}
	with := func(m ...api.Match) api.Entry {
		return api.Entry{Table: 3, Priority: 4, Matches: m}
	}
	l := []api.Entry{
		// Table
		{Table: math.MinInt, Priority: -1, Action: 9}, {Table: -1, Priority: 0, Action: 8}, {Table: 0, Priority: 1, Action: 7}, {Table: 1, Priority: 2, Action: 6, Args: args{ones}}, {Table: 2, Priority: 3, Action: 5},
		// The greater Priority comes first.
		{Table: 3, Priority: math.MaxInt, Matches: matches{exact(9)}}, {Table: 3, Priority: 65535, Matches: matches{exact(8)}}, {Table: 3, Priority: 5, Matches: matches{exact(7)}},
		// Matches: the shorter list comes first, Action and Args come behind it.
		with(), {Table: 3, Priority: 4, Args: args{of(0)}}, {Table: 3, Priority: 4, Action: 1},
		{Table: 3, Priority: 4, Matches: matches{none()}, Action: -9, Args: args{ones}},
		with(none()), {Table: 3, Priority: 4, Matches: matches{none()}, Action: 9}, with(none(), none()), with(none(), exact(0)),
		// What is not Present comes first, whatever its fields are.
		with(absent(full(of(0), of(0), 0, of(1)))), with(absent(full(of(0), of(0), 1, of(0)))), with(absent(full(of(0), of(1), 0, of(0)))), with(absent(full(of(1), of(0), 0, of(0)))), with(absent(full(ones, ones, 9, ones))),
		// Value, Mask, Prefix, High
		with(exact(0)), with(exact(0), none()), with(full(of(0), of(0), 0, of(1))), with(full(of(0), of(0), 0, far)), with(full(of(0), of(0), 0, wide)), with(full(of(0), of(0), 0, ones)),
		with(full(of(0), of(0), 1, of(5))), with(full(of(0), of(0), 2, of(0))), with(full(of(0), of(0), math.MaxInt, of(0))),
		with(full(of(0), of(1), -2, ones)), with(full(of(0), of(1), -1, of(1))), with(full(of(0), of(2), -7, of(0))), with(full(of(0), far, 0, of(0))), with(full(of(0), wide, 0, of(0))),
		with(full(of(1), of(5), 5, of(5))), with(full(of(2), of(4), 4, of(4)), exact(1)), with(full(far, of(3), 3, of(3))), with(full(wide, of(2), 2, of(2))), with(full(ones, of(0), 0, of(0))),
		// The first match that differs decides.
		with(full(ones, of(0), 0, of(0)), none(), exact(9)), with(full(ones, of(0), 0, of(0)), exact(1), exact(8)), with(full(ones, of(0), 0, of(0)), exact(1), exact(8), none()), with(full(ones, of(0), 0, of(0)), exact(1), exact(9)), with(full(ones, of(0), 0, of(0)), exact(2)),
	}
	// Action, and Args: the shorter list comes first.
	for _, x := range []struct {
		action int
		args   args
	}{
		{math.MinInt, args{of(9)}}, {-1, args{of(8)}}, {0, args{of(7)}}, {1, args{of(6)}}, {2, nil}, {2, args{of(0)}}, {2, args{of(0), of(0)}}, {2, args{of(0), of(1)}}, {2, args{of(0), of(1), of(9)}}, {2, args{of(0), far}}, {2, args{of(0), wide}}, {2, args{of(1)}}, {2, args{of(2), of(0)}}, {2, args{ones}}, {math.MaxInt, nil},
	} {
		l = append(l, api.Entry{Table: 3, Priority: 3, Matches: matches{exact(5), none()}, Action: x.action, Args: x.args})
	}
	return append(l, api.Entry{Table: 3, Priority: 2}, api.Entry{Table: 3, Priority: 0}, api.Entry{Table: 3, Priority: -1}, api.Entry{Table: 3, Priority: math.MinInt}, api.Entry{Table: 4, Priority: 9}, api.Entry{Table: math.MaxInt, Priority: math.MaxInt})
}

// P10.3 Compare and Same, and P10.4: antisymmetric, and 0 exactly if Same
func TestCompare(t *testing.T) {
	l, again := ascending(), ascending()
	for i, a := range l {
		for k, b := range again {
			want := 0
			switch {
			case i < k:
				want = -1
			case i > k:
				want = 1
			}
			if n := Compare(a, b); n != want {
				t.Errorf("entries %d and %d: %d, not %d: %+v, %+v", i, k, n, want, a, b)
			}
			if ok := Same(a, b); ok != (i == k) {
				t.Errorf("entries %d and %d are the same: %t", i, k, ok)
			}
		}
	}
}

// P10.3 Same and SameKey: each part of an entry
func TestSame(t *testing.T) {
	sample := func() api.Entry {
		return api.Entry{Table: 5, Matches: []api.Match{{Present: true, Value: api.Value{Hi: 1, Lo: 2}, Mask: api.Value{Hi: 3, Lo: 4}, Prefix: 5, High: api.Value{Hi: 6, Lo: 7}}, none(), exact(3)}, Priority: 6, Action: 7, Args: []api.Value{{Hi: 8, Lo: 9}, of(10)}}
	}
	word := func(v *api.Value, do func()) {
		v.Hi++
		do()
		v.Hi--
		v.Lo++
		do()
	}
	for i, x := range []struct {
		change func(e *api.Entry)
		ofKey  bool
	}{
		{func(e *api.Entry) { e.Table++ }, true}, {func(e *api.Entry) { e.Priority++ }, true}, {func(e *api.Entry) { e.Priority = -6 }, true},
		{func(e *api.Entry) { e.Matches = nil }, true}, {func(e *api.Entry) { e.Matches = e.Matches[:2] }, true}, {func(e *api.Entry) { e.Matches = append(e.Matches, none()) }, true}, {func(e *api.Entry) { slices.Reverse(e.Matches) }, true},
		{func(e *api.Entry) { e.Matches[0].Present = false }, true}, {func(e *api.Entry) { e.Matches[1].Present = true }, true}, {func(e *api.Entry) { e.Matches[0].Prefix++ }, true}, {func(e *api.Entry) { e.Matches[2].Value.Lo++ }, true}, {func(e *api.Entry) { e.Matches[1].High.Hi++ }, true},
		{func(e *api.Entry) { e.Action++ }, false}, {func(e *api.Entry) { e.Args = nil }, false}, {func(e *api.Entry) { e.Args = e.Args[:1] }, false}, {func(e *api.Entry) { e.Args = append(e.Args, of(0)) }, false}, {func(e *api.Entry) { slices.Reverse(e.Args) }, false}, {func(e *api.Entry) { e.Args[0].Hi++ }, false}, {func(e *api.Entry) { e.Args[1].Lo++ }, false},
	} {
		a, b := sample(), sample()
		if !Same(a, b) || !SameKey(a, b) {
			t.Fatal("equal entries")
		}
		x.change(&b)
		if Same(a, b) || Same(b, a) {
			t.Errorf("change %d: the same", i)
		}
		if SameKey(a, b) == x.ofKey || SameKey(b, a) == x.ofKey {
			t.Errorf("change %d: the same key: %t", i, x.ofKey)
		}
	}
	a := sample()
	for _, v := range []*api.Value{&a.Matches[0].Value, &a.Matches[0].Mask, &a.Matches[0].High} {
		old := *v
		word(v, func() {
			if Same(a, sample()) || SameKey(a, sample()) {
				t.Errorf("%+v is the same", a)
			}
		})
		*v = old
	}
	empty := api.Entry{Table: 1, Matches: []api.Match{}, Args: []api.Value{}}
	if !Same(api.Entry{Table: 1}, empty) || !SameKey(empty, api.Entry{Table: 1}) || Compare(empty, api.Entry{Table: 1}) != 0 || !Same(api.Entry{}, api.Entry{}) {
		t.Error("nil and empty lists differ")
	}
}

// small returns an entry whose parts are small numbers.
func (c chooser) small() api.Entry {
	number := func() int { return c.Intn(2) }
	v := func() api.Value { return api.Value{Hi: uint64(c.Intn(6) / 5), Lo: uint64(number())} }
	e := api.Entry{Table: number(), Priority: number(), Action: number()}
	for range c.Intn(3) {
		m := none()
		if c.Intn(3) > 0 {
			m = api.Match{Present: c.Intn(5) > 0, Value: v(), Mask: v(), Prefix: number(), High: v()}
		}
		e.Matches = append(e.Matches, m)
	}
	for range c.Intn(3) {
		e.Args = append(e.Args, v())
	}
	return e
}

// rank returns what the canonical order compares, number by number; where a list ends, there is a number less than those that begin an element.
func rank(e api.Entry) []int {
	v := func(v api.Value) []int { return []int{int(v.Hi), int(v.Lo)} }
	l := []int{e.Table, -e.Priority}
	for _, m := range e.Matches {
		present := 1
		if m.Present {
			present = 2
		}
		l = slices.Concat(l, []int{present}, v(m.Value), v(m.Mask), []int{m.Prefix}, v(m.High))
	}
	l = append(l, 0, e.Action)
	for _, x := range e.Args {
		l = slices.Concat(l, []int{1}, v(x))
	}
	return append(l, 0)
}

// P10.3 and P10.4: Compare is an order, 0 exactly if Same is true; random entries of small numbers
func TestOrder(t *testing.T) {
	c := newChooser(3)
	counts := map[int]int{}
	var l []api.Entry
	for range 400 {
		l = append(l, c.small())
	}
	for _, a := range l {
		for _, b := range l {
			n := Compare(a, b)
			if want := slices.Compare(rank(a), rank(b)); n != want || Compare(b, a) != -want {
				t.Fatalf("%+v and %+v: %d, not %d", a, b, n, want)
			}
			same := slices.Equal(a.Matches, b.Matches) && slices.Equal(a.Args, b.Args) && a.Table == b.Table && a.Priority == b.Priority && a.Action == b.Action
			if (n == 0) != same || Same(a, b) != same {
				t.Fatalf("%+v and %+v: %d", a, b, n)
			}
			counts[n]++
		}
	}
	if counts[0] < 400 || counts[-1] < 50000 {
		t.Errorf("the entries are not diverse enough: %v", counts)
	}
	for range 200000 {
		x, y, z := pick(c, l...), pick(c, l...), pick(c, l...)
		if Compare(x, y) <= 0 && Compare(y, z) <= 0 && Compare(x, z) > 0 {
			t.Fatalf("%+v, %+v, %+v: not transitive", x, y, z)
		}
	}
}

// R3: arguments are not modified.
func TestArguments(t *testing.T) {
	s, e := sample(), mixed(1, ternary(5, 7), between(3, 9), exact(1), prefix(0, 1))
	e.Action, e.Args = 21, []api.Value{of(1), of(2), of(1)}
	other := e
	other.Matches, other.Args = slices.Clone(e.Matches), slices.Clone(e.Args)
	Check(s, e)
	Matches(s, e, api.Point{of(5), of(3), of(1), of(0)})
	Covers(e.Matches[0], api.Ternary, 3, of(5))
	Prefix(s, e)
	Beats(s, api.Installed{Entry: e}, api.Installed{Entry: e})
	Compare(e, e)
	Same(e, e)
	Append(nil, e)
	if !reflect.DeepEqual(s, sample()) || !reflect.DeepEqual(e, other) {
		t.Errorf("the arguments became %+v, %+v", s, e)
	}
}
