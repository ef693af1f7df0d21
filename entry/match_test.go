package entry

import (
	"math"
	"slices"
	"testing"

	"matchguard/api"
	"matchguard/value"
)

// P10.2 Covers, by hand
func TestCovers(t *testing.T) {
	high := api.Match{Present: true, Value: power(127), Mask: ones, Prefix: 1, High: ones}
	for i, x := range []struct {
		m          api.Match
		kind, bits int
		v          api.Value
		want       bool
	}{
		// A match that is not Present, whatever its other fields are
		{none(), api.Exact, 8, of(5), true}, {none(), api.LPM, 8, of(5), true}, {none(), api.Ternary, 8, of(5), true}, {none(), api.Range, 8, of(5), true}, {none(), api.Range, 8, ones, true},
		{api.Match{Value: of(4), Mask: ones, Prefix: 8, High: of(4)}, api.Exact, 8, of(5), true}, {api.Match{Value: of(4), Mask: ones, Prefix: 8, High: of(4)}, api.LPM, 8, of(5), true}, {api.Match{Value: of(4), Mask: ones, Prefix: 8, High: of(4)}, api.Ternary, 8, of(5), true}, {api.Match{Value: of(4), Mask: ones, Prefix: 8, High: of(4)}, api.Range, 8, of(5), true},
		// Other Kinds
		{none(), 0, 8, of(5), false}, {none(), 5, 8, of(5), false}, {none(), -1, 8, of(5), false}, {none(), math.MaxInt, 8, of(5), false}, {exact(5), 0, 8, of(5), false}, {high, 5, 128, power(127), false}, {api.Match{Present: true}, 0, 0, of(0), false},
		{exact(5), api.Exact, 8, of(5), true}, {exact(5), api.Exact, 8, of(4), false}, {exact(5), api.Exact, 8, of(13), false}, {exact(5), api.Exact, 8, api.Value{Hi: 1, Lo: 5}, false}, {high, api.Exact, 128, power(127), true}, {high, api.Exact, 128, ones, false},
		{prefix(0x0a000000, 8), api.LPM, 32, of(0x0a010203), true}, {prefix(0x0a000000, 8), api.LPM, 32, of(0x0affffff), true}, {prefix(0x0a000000, 8), api.LPM, 32, of(0x0b000000), false}, {prefix(0x0a000000, 8), api.LPM, 32, of(0x09ffffff), false}, {prefix(0x0a000000, 8), api.LPM, 32, of(0x8a000000), false},
		{prefix(6, 3), api.LPM, 3, of(6), true}, {prefix(6, 3), api.LPM, 3, of(7), false}, {prefix(6, 2), api.LPM, 3, of(7), true}, {prefix(6, 2), api.LPM, 3, of(5), false}, {prefix(6, 1), api.LPM, 3, of(4), true}, {prefix(6, 1), api.LPM, 3, of(3), false}, {prefix(6, 0), api.LPM, 3, of(1), true},
		// The Value need not be canonical; a Prefix that is out of range counts as the nearest one in it.
		{prefix(7, 2), api.LPM, 3, of(6), true}, {prefix(6, -1), api.LPM, 3, of(1), true}, {prefix(6, math.MinInt), api.LPM, 3, of(1), true}, {prefix(6, 4), api.LPM, 3, of(6), true}, {prefix(6, 4), api.LPM, 3, of(7), false}, {prefix(6, math.MaxInt), api.LPM, 3, of(6), true}, {prefix(6, math.MaxInt), api.LPM, 3, of(2), false},
		{high, api.LPM, 128, ones, true}, {high, api.LPM, 128, below(127), false}, {prefix(1, 64), api.LPM, 65, of(0), true}, {prefix(1, 65), api.LPM, 65, of(0), false}, {prefix(1, 1), api.LPM, 65, power(64), false},
		{ternary(5, 7), api.Ternary, 8, of(5), true}, {ternary(5, 7), api.Ternary, 8, of(13), true}, {ternary(5, 7), api.Ternary, 8, of(12), false}, {ternary(5, 5), api.Ternary, 8, of(7), true}, {ternary(5, 5), api.Ternary, 8, of(6), false}, {ternary(0, 8), api.Ternary, 8, of(7), true}, {ternary(0, 8), api.Ternary, 8, of(8), false}, {ternary(0, 0), api.Ternary, 8, of(9), true}, {ternary(9, 7), api.Ternary, 8, of(9), false}, {ternary(9, 7), api.Ternary, 8, of(1), false}, {ternary(1, 0), api.Ternary, 8, of(1), false},
		{high, api.Ternary, 128, power(127), true}, {high, api.Ternary, 128, ones, false},
		{between(3, 9), api.Range, 8, of(2), false}, {between(3, 9), api.Range, 8, of(3), true}, {between(3, 9), api.Range, 8, of(4), true}, {between(3, 9), api.Range, 8, of(9), true}, {between(3, 9), api.Range, 8, of(10), false}, {between(4, 4), api.Range, 8, of(4), true}, {between(4, 4), api.Range, 8, of(5), false}, {between(9, 3), api.Range, 8, of(5), false}, {between(9, 3), api.Range, 8, of(9), false}, {between(9, 3), api.Range, 8, of(3), false},
		{high, api.Range, 128, ones, true}, {high, api.Range, 128, power(127), true}, {high, api.Range, 128, below(127), false}, {between(3, 9), api.Range, 128, power(64), false}, {api.Match{Present: true, Value: of(3), High: power(64)}, api.Range, 128, of(math.MaxUint64), true},
	} {
		if ok := Covers(x.m, x.kind, x.bits, x.v); ok != x.want {
			t.Errorf("match %d: %t", i, ok)
		}
		if ok := expectedCovers(x.m, x.kind, x.bits, x.v); ok != x.want {
			t.Errorf("match %d: the oracle says %t", i, ok)
		}
	}
}

// P10.2 Covers: all matches of small numbers and all values of 3 bits, and some beyond
func TestSmallCovers(t *testing.T) {
	for n := range 2 * 10 * 10 * 7 * 10 {
		m := api.Match{Present: n%2 == 1, Value: of(uint64(n / 2 % 10)), Mask: of(uint64(n / 20 % 10)), Prefix: n/200%7 - 1, High: of(uint64(n / 1400))}
		for _, kind := range append([]int{0, 5}, kinds...) {
			for v := range uint64(10) {
				if ok := Covers(m, kind, 3, of(v)); ok != expectedCovers(m, kind, 3, of(v)) {
					t.Fatalf("%+v of the Kind %d and %d: %t", m, kind, v, ok)
				}
			}
		}
	}
}

// P10.2 Covers: random matches and values, against the oracle
func TestRandomCovers(t *testing.T) {
	c := newChooser(1)
	count := map[bool]int{}
	for range 100000 {
		kind, bits := pick(c, kinds...), 1+c.Intn(128)
		m := c.match(kind, bits)
		v := c.near(m, kind, bits)
		want := expectedCovers(m, kind, bits, v)
		if ok := Covers(m, kind, bits, v); ok != want {
			t.Fatalf("%+v of the Kind %d with %d bits and %x: %t", m, kind, bits, v, ok)
		}
		count[want]++
	}
	if count[true] < 20000 || count[false] < 20000 {
		t.Errorf("the matches are not diverse enough: %v", count)
	}
}

// P10.2 Matches, by hand
func TestMatches(t *testing.T) {
	s := sample()
	wide := api.Match{Present: true, Value: power(127), Prefix: 1}
	full := mixed(1, ternary(5, 5), between(3, 9), exact(6), wide)
	type point = api.Point
	for i, x := range []struct {
		e    api.Entry
		p    point
		want bool
	}{
		{host(exact(7)), point{of(7)}, true}, {host(exact(7)), point{of(8)}, false}, {host(exact(0)), point{}, true},
		// The values behind the last key do not count.
		{host(exact(7)), point{of(7), of(1), ones, of(2)}, true}, {host(exact(7)), point{of(1), of(7), of(7), of(7)}, false},
		{route(exact(3), prefix(0x0a000000, 8)), point{of(3), of(0x0a010203)}, true}, {route(exact(3), prefix(0x0a000000, 8)), point{of(3), of(0x0b010203)}, false}, {route(exact(3), prefix(0x0a000000, 8)), point{of(2), of(0x0a010203)}, false}, {route(exact(3), none()), point{of(3), of(0x0b010203)}, true}, {route(exact(3), none()), point{of(2), of(0x0b010203)}, false},
		{mixed(1, none(), none(), exact(0), none()), point{of(1), of(2), of(0), of(4)}, true}, {mixed(1, none(), none(), exact(0), none()), point{of(1), of(2), of(1), of(4)}, false},
		// Each key decides.
		{full, point{of(7), of(3), of(6), ones}, true}, {full, point{of(6), of(3), of(6), ones}, false}, {full, point{of(7), of(2), of(6), ones}, false}, {full, point{of(7), of(3), of(5), ones}, false}, {full, point{of(7), of(3), of(6), of(6)}, false},
		// The action does not count.
		{api.Entry{Table: 10, Matches: []api.Match{exact(7)}, Action: 99, Args: []api.Value{ones}}, point{of(7)}, true},
	} {
		if ok := Matches(s, x.e, x.p); ok != x.want {
			t.Errorf("entry %d: %t", i, ok)
		}
	}
}

// P10.2 Matches: random entries and points
func TestRandomMatches(t *testing.T) {
	count := map[bool]int{}
	for seed := range int64(40000) {
		c := newChooser(seed)
		var ks, bits []int
		var p api.Point
		e := api.Entry{Table: 10}
		want := true
		for i := range 1 + c.Intn(4) {
			kind, width := pick(c, kinds...), 1+c.Intn(128)
			if kind == api.LPM && slices.Contains(ks, api.LPM) {
				kind = api.Range
			}
			m := c.match(kind, width)
			for expectedMatch(m, kind, width) != api.OK {
				m = c.match(kind, width)
			}
			if kind >= api.Ternary {
				e.Priority = 1
			}
			p[i] = c.near(m, kind, width)
			want = want && expectedCovers(m, kind, width, p[i])
			ks, bits, e.Matches = append(ks, kind), append(bits, width), append(e.Matches, m)
		}
		s := withKeys(ks, bits)
		if code := CheckKey(s, e); code != api.OK {
			t.Fatalf("seed %d: the entry has the error %d", seed, code)
		}
		if ok := Matches(s, e, p); ok != want {
			t.Fatalf("seed %d: %t", seed, ok)
		}
		count[want]++
	}
	if count[true] < 5000 || count[false] < 5000 {
		t.Errorf("the entries are not diverse enough: %v", count)
	}
}

// P10.2 Prefix
func TestPrefix(t *testing.T) {
	s := sample()
	all := []api.Match{prefix(0, 1), prefix(0, 2), prefix(0, 3), prefix(0, 4), prefix(0, 5)}
	for i, x := range []struct {
		e    api.Entry
		want int
	}{
		{route(exact(1), prefix(0, 9)), 9}, {route(exact(1), prefix(0, 32)), 32}, {route(exact(1), none()), 0}, {route(prefix(0, 4), prefix(0, 9)), 9},
		{host(exact(1)), 0}, {host(prefix(0, 9)), 0}, {api.Entry{Table: 13, Matches: all}, 0}, {api.Entry{Table: 14, Matches: all}, 0}, {api.Entry{Table: 15, Matches: all}, 1}, {mixed(1, all...), 4}, {mixed(1, all[:4]...), 4}, {mixed(1, all[:3]...), 0}, {mixed(1), 0}, {api.Entry{Table: 11, Matches: all[:1]}, 0}, {api.Entry{Table: 11}, 0},
		{api.Entry{Table: 99, Matches: all}, 0}, {api.Entry{Table: 0, Matches: all}, 0}, {api.Entry{Table: 1, Matches: all}, 0}, {api.Entry{}, 0},
		// The Prefix as it is
		{route(exact(1), prefix(0, -5)), -5}, {route(exact(1), api.Match{Prefix: 7}), 7}, {route(exact(1), prefix(0, math.MaxInt)), math.MaxInt},
	} {
		if n := Prefix(s, x.e); n != x.want {
			t.Errorf("entry %d: %d, not %d", i, n, x.want)
		}
	}
}

// P10.2 Beats, and P10.4: of two entries exactly one wins over the other, if their numbers differ.
func TestBeats(t *testing.T) {
	s := sample()
	in := func(priority, length, number int) api.Installed {
		e := mixed(priority, ternary(5, 7), none(), exact(1), prefix(0, length))
		return api.Installed{Entry: e, Number: number, Owner: 100 - number}
	}
	// Each one wins over those behind it.
	l := []api.Installed{
		in(math.MaxInt, 1, 1), in(65535, 1, 1), in(9, 128, 8), in(9, 128, 7), in(9, 2, 50), in(9, 2, 3), in(9, 0, 60), in(8, 128, math.MaxInt), in(8, 128, 70), in(1, 3, 5), in(1, 3, 4), in(1, 3, 0), in(1, 3, -1), in(1, 3, math.MinInt), in(0, 9, 9), in(math.MinInt, 9, 9),
	}
	// Without a prefix the order is that of priority and number.
	host := func(number int, n uint64) api.Installed {
		return api.Installed{Entry: api.Entry{Table: 10, Matches: []api.Match{exact(n)}}, Number: number}
	}
	cube := func(priority, number int, mask uint64) api.Installed {
		return api.Installed{Entry: api.Entry{Table: 14, Matches: []api.Match{ternary(0, mask)}, Priority: priority}, Number: number}
	}
	for _, list := range [][]api.Installed{
		l,
		{host(9, 1), host(8, 2), host(2, 0)},
		{cube(9, 1, 1), cube(8, 7, 1), cube(8, 2, 7), cube(1, 9, 4)},
	} {
		for i, a := range list {
			for k, b := range list {
				if ok := Beats(s, a, b); ok != (i < k) {
					t.Errorf("%d and %d: %t", i, k, ok)
				}
			}
		}
	}
}

// P10.4: the same for random entries that match a point
func TestOneWins(t *testing.T) {
	s := sample()
	c := newChooser(2)
	for range 20000 {
		p := api.Point{c.value(3), c.value(128), c.value(65), c.value(128)}
		entry := func() api.Entry {
			e := mixed(1+c.Intn(2), none(), none(), api.Match{Present: true, Value: p[2]}, none())
			if c.Intn(3) > 0 {
				length := 1 + c.Intn(3)
				e.Matches[3] = api.Match{Present: true, Value: value.And(p[3], value.Leading(128, length)), Prefix: length}
			}
			if c.Intn(2) > 0 {
				e.Matches[0] = api.Match{Present: true, Value: value.And(p[0], of(5)), Mask: of(5)}
			}
			if !Matches(s, e, p) {
				t.Fatalf("%+v does not match %x", e, p)
			}
			return e
		}
		p[0] = value.And(p[0], of(7))
		a, b := api.Installed{Entry: entry(), Number: c.Intn(3)}, api.Installed{Entry: entry(), Number: c.Intn(3)}
		if a.Number != b.Number && Beats(s, a, b) == Beats(s, b, a) {
			t.Fatalf("%+v and %+v", a, b)
		}
		if Beats(s, a, b) && Beats(s, b, a) || Beats(s, a, a) {
			t.Fatalf("%+v and %+v", a, b)
		}
	}
}
