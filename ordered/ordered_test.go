package ordered

import (
	"fmt"
	"math"
	"math/rand"
	"slices"
	"testing"

	"matchguard/api"
	"matchguard/check"
	"matchguard/entry"
	"matchguard/types"
)

// layouts are the Kinds and bits of the keys of tables.
var layouts = [][]int{
	{api.Exact, 2}, {api.LPM, 3}, {api.Ternary, 2}, {api.Range, 2},
	{api.Exact, 1, api.LPM, 2}, {api.LPM, 2, api.Exact, 1}, {api.Ternary, 2, api.Range, 2}, {api.LPM, 2, api.Ternary, 2}, {api.Range, 2, api.LPM, 2},
	{api.Exact, 1, api.Exact, 1, api.Exact, 1, api.Exact, 1}, {api.Ternary, 1, api.Range, 1, api.Exact, 1, api.LPM, 2}, {api.Ternary, 1, api.Ternary, 2, api.Ternary, 1},
}

func TestSamples(t *testing.T) {
	for _, keys := range layouts {
		s := schemaOf(keys...)
		if check.Check(s) != api.OK || types.All(s) != api.OK {
			t.Errorf("%v: the errors %d, %d", keys, check.Check(s), types.All(s))
		}
		for _, l := range entriesOf(keys...) {
			i := installed(1, 0, l...)
			if needsPriority(keys) {
				i.Entry.Priority = 1
			}
			if code := entry.Check(s, i.Entry); code != api.OK {
				t.Errorf("%v: %+v has the error %d", keys, l, code)
			}
		}
	}
}

// P13.1: the document's example
func TestExample(t *testing.T) {
	for _, order := range [][]int{{3, 5}, {5, 3}} {
		x, o := pair(api.Ternary, 8)
		for n, priority := range order {
			i := installed(n+1, priority, none())
			if !x.Put(i) || !o.put(i) {
				t.Errorf("Put %d", n)
			}
		}
		o.check(t, x, api.Point{}, api.Point{of(255)})
		if i, ok := x.Lookup(api.Point{of(7)}); !ok || i.Entry.Priority != 5 {
			t.Errorf("%+v is found", i)
		}
	}
}

// P13.1 New: a List without entries
func TestEmpty(t *testing.T) {
	for _, keys := range layouts {
		x, o := pair(keys...)
		if x == nil {
			t.Fatal("New returns nil")
		}
		o.check(t, x, pointsOf(keys...)...)
		for _, n := range []int{0, 1, -1, math.MaxInt} {
			if x.Remove(n) {
				t.Errorf("%d is removed", n)
			}
		}
		if i, ok := x.Lookup(api.Point{}); ok || !same(i, api.Installed{}) {
			t.Errorf("%+v is found", i)
		}
	}
}

// P13.1 Put: an entry with this Number is there, or not; nothing else of it counts
func TestPutAgain(t *testing.T) {
	x, o := pair(api.Ternary, 3)
	first := installed(4, 5, ternary(1, 1))
	x.Put(first)
	o.put(first)
	same, other, greater := first, installed(4, 5, ternary(2, 2)), installed(4, 9, none())
	owned := first
	owned.Owner = 77
	for _, i := range []api.Installed{same, other, greater, owned, {Number: 4}} {
		if x.Put(i) {
			t.Errorf("%+v is added", i)
		}
		o.check(t, x, pointsOf(api.Ternary, 3)...)
	}
	// The same key with another number is another entry.
	for _, n := range []int{3, 5, 0, -4, math.MaxInt, math.MinInt, 1<<32 + 4} {
		i := first
		i.Number = n
		if !x.Put(i) || x.Put(i) || !o.put(i) {
			t.Errorf("Put %d", n)
		}
		o.check(t, x, pointsOf(api.Ternary, 3)...)
	}
	if l := numbersOf(x.All()); !descending(l) || l[0] != math.MaxInt {
		t.Errorf("%v", l)
	}
}

// P13.1 Lookup, All: first the priority decides, then the prefix, then the number
func TestRanks(t *testing.T) {
	keys := []int{api.Ternary, 2, api.LPM, 3}
	var l []api.Installed
	for i, rank := range [][3]int{{1, 0, 1}, {1, 0, 20}, {1, 1, 2}, {1, 1, 19}, {1, 3, 3}, {1, 3, 4}, {2, 0, 5}, {2, 0, 18}, {2, 2, 6}, {2, 2, 17}, {2, 3, -7}, {100, 0, 7}, {65534, 3, 16}, {65535, 0, 0}, {65535, 0, 8}, {65535, 1, 9}} {
		m := prefix(0, rank[1])
		if rank[1] == 0 {
			m = none()
		}
		l = append(l, installed(rank[2], rank[0], none(), m))
		if i > 0 && l[i-1].Number == l[i].Number {
			t.Fatal("the numbers are not different")
		}
	}
	for a := range l {
		for b := range l {
			if a == b {
				continue
			}
			x := New(schemaOf(keys...))
			if !x.Put(l[a]) || !x.Put(l[b]) {
				t.Fatalf("Put %+v, %+v", l[a], l[b])
			}
			want := []int{l[max(a, b)].Number, l[min(a, b)].Number}
			if got := numbersOf(x.All()); !slices.Equal(got, want) {
				t.Errorf("%v, not %v", got, want)
			}
			if i, ok := x.Lookup(api.Point{}); !ok || !same(i, l[max(a, b)]) {
				t.Errorf("%+v is found, not %+v", i, l[max(a, b)])
			}
		}
	}
}

// P13.1: all points, and all sets of up to two entries of tables with few bits, or some of them if they are many
func TestSmall(t *testing.T) {
	for _, keys := range layouts {
		l := entriesOf(keys...)
		points := pointsOf(keys...)
		step := 1 + len(l)/16
		for a := range l {
			for b := a % step; b <= a; b += step {
				for _, priorities := range [][2]int{{1, 1}, {1, 2}, {2, 1}} {
					if !needsPriority(keys) {
						priorities = [2]int{}
					}
					x, o := pair(keys...)
					first, second := installed(8, priorities[0], l[a]...), installed(9, priorities[1], l[b]...)
					if !x.Put(first) || !x.Put(second) || !o.put(second) || !o.put(first) {
						t.Fatal("Put")
					}
					o.check(t, x, points...)
					if !x.Remove(9) || !o.remove(9) {
						t.Fatal("Remove")
					}
					o.check(t, x, points...)
				}
			}
		}
	}
}

// P13.1 Remove: this entry and no other, once; it can be added again
func TestRemove(t *testing.T) {
	var l []api.Installed
	for i := range 9 {
		l = append(l, installed(i*i-20, 1+i%3, ternary(uint64(i%2), 1)))
	}
	points := pointsOf(api.Ternary, 1)
	for _, gone := range l {
		x, o := pair(api.Ternary, 1)
		for _, i := range l {
			x.Put(i)
			o.put(i)
		}
		for _, n := range []int{-21, -18, 45, math.MaxInt, math.MinInt} {
			if x.Remove(n) {
				t.Errorf("%d is removed", n)
			}
		}
		o.check(t, x, points...)
		if !x.Remove(gone.Number) || x.Remove(gone.Number) || !o.remove(gone.Number) {
			t.Errorf("Remove(%d)", gone.Number)
		}
		o.check(t, x, points...)
		again := gone
		again.Entry.Priority = 7
		if !x.Put(again) || !o.put(again) {
			t.Errorf("%d is not added again", gone.Number)
		}
		o.check(t, x, points...)
		for _, i := range l {
			if !x.Remove(i.Number) || !o.remove(i.Number) {
				t.Errorf("Remove(%d)", i.Number)
			}
			o.check(t, x, points...)
		}
		if x.Len() != 0 {
			t.Errorf("%d entries are left", x.Len())
		}
	}
}

// P13.1, P13.2: random calls, against the oracle
func TestRandomCalls(t *testing.T) {
	found := map[string]int{}
	for seed := range int64(240) {
		c := rand.New(rand.NewSource(seed))
		keys := layouts[int(seed)%len(layouts)]
		x, o := pair(keys...)
		l, points := entriesOf(keys...), pointsOf(keys...)
		for range 120 {
			number := c.Intn(30) - 8
			switch c.Intn(3) {
			case 0:
				if x.Remove(number) != o.remove(number) {
					t.Fatalf("seed %d: Remove(%d)", seed, number)
				}
			default:
				i := installed(number, 0, pick(c, l)...)
				if needsPriority(keys) {
					i.Entry.Priority = 1 + c.Intn(4)
				}
				added := o.put(i)
				if x.Put(i) != added {
					t.Fatalf("seed %d: Put(%+v) is not %t", seed, i, added)
				}
				found[fmt.Sprint("added ", added)]++
			}
			p := pick(c, points)
			_, ok := o.lookup(p)
			found[fmt.Sprint("found ", ok)]++
			o.check(t, x, p)
		}
		o.check(t, x, points...)
	}
	for _, what := range []string{"added true", "added false", "found true", "found false"} {
		if found[what] < 1000 {
			t.Errorf("the calls are not diverse enough: %v", found)
		}
	}
}

// P13.2: results depend only on the entries that are there
func TestAnyOrder(t *testing.T) {
	for seed := range int64(120) {
		c := rand.New(rand.NewSource(seed))
		keys := layouts[int(seed)%len(layouts)]
		l, points := entriesOf(keys...), pointsOf(keys...)
		o := &oracle{keys: keys}
		for n := range 12 {
			i := installed(n, 0, pick(c, l)...)
			if needsPriority(keys) {
				i.Entry.Priority = 1 + c.Intn(3)
			}
			o.put(i)
		}
		for range 5 {
			x := New(schemaOf(keys...))
			for _, at := range c.Perm(len(o.entries)) {
				// What is removed again leaves no trace.
				if c.Intn(2) == 0 {
					other := o.entries[at]
					other.Entry.Matches = pick(c, l)
					x.Put(other)
					x.Lookup(pick(c, points))
					x.Remove(other.Number)
				}
			}
			for _, at := range c.Perm(len(o.entries)) {
				x.Put(o.entries[at])
			}
			o.check(t, x, points...)
			o.check(t, x, points...)
		}
	}
}

// P13.2: adding an entry, or removing it, changes the result of Lookup only for points that it matches
func TestOtherPoints(t *testing.T) {
	changed, kept := 0, 0
	for seed := range int64(120) {
		c := rand.New(rand.NewSource(seed))
		keys := layouts[int(seed)%len(layouts)]
		l, points := entriesOf(keys...), pointsOf(keys...)
		x, o := pair(keys...)
		for n := range 10 {
			i := installed(n, 0, pick(c, l)...)
			if needsPriority(keys) {
				i.Entry.Priority = 1 + c.Intn(3)
			}
			var before []api.Installed
			for _, p := range points {
				found, _ := x.Lookup(p)
				before = append(before, found)
			}
			x.Put(i)
			for at, p := range points {
				switch found, _ := x.Lookup(p); {
				case same(found, before[at]):
					kept++
				case !o.matches(i, p) || !same(found, i):
					t.Fatalf("%+v is found instead of %+v, behind Put(%+v)", found, before[at], i)
				default:
					changed++
				}
			}
			if c.Intn(3) == 0 {
				x.Remove(n)
				for at, p := range points {
					if found, _ := x.Lookup(p); !same(found, before[at]) {
						t.Fatalf("%+v is found instead of %+v, behind Remove", found, before[at])
					}
				}
			}
		}
	}
	if changed < 100 || kept < 100 {
		t.Errorf("%d results are changed, %d are kept", changed, kept)
	}
}

// P13.1 Lookup: values of all 128 bits, at the ends of what matches cover
func TestWide(t *testing.T) {
	const all = math.MaxUint64
	keys := []int{api.Range, 128, api.Ternary, 128, api.LPM, 128, api.Exact, 128}
	x, o := pair(keys...)
	low, high := api.Value{Hi: 1, Lo: all}, api.Value{Hi: 2, Lo: 0}
	top := api.Value{Hi: 1 << 63}
	l := []api.Installed{
		installed(1, 1, api.Match{Present: true, Value: low, High: high}, none(), none(), exact(0)),
		installed(2, 2, none(), api.Match{Present: true, Value: top, Mask: api.Value{Hi: 1 << 63, Lo: 1}}, none(), exact(0)),
		installed(3, 2, none(), none(), api.Match{Present: true, Value: top, Prefix: 1}, exact(0)),
		installed(4, 2, none(), none(), api.Match{Present: true, Value: api.Value{Hi: 1 << 63, Lo: 1}, Prefix: 128}, exact(0)),
		installed(5, 9, none(), none(), none(), api.Match{Present: true, Value: api.Value{Hi: all, Lo: all}}),
	}
	for _, i := range l {
		if code := entry.CheckKey(schemaOf(keys...), i.Entry); code != api.OK {
			t.Errorf("%d has the error %d", i.Number, code)
		}
		x.Put(i)
		o.put(i)
	}
	values := []api.Value{{}, {Lo: 1}, {Hi: 1, Lo: all - 1}, low, high, {Hi: 2, Lo: 1}, top, {Hi: 1 << 63, Lo: 1}, {Hi: 1 << 63, Lo: 2}, {Hi: all, Lo: all}}
	winners := map[int]int{}
	for _, a := range values {
		for _, b := range values {
			for _, c := range values {
				for _, d := range values {
					p := api.Point{a, b, c, d}
					o.check(t, x, p)
					i, _ := x.Lookup(p)
					winners[i.Number]++
				}
			}
		}
	}
	if len(winners) != len(l)+1 {
		t.Errorf("only some entries are found: %v", winners)
	}
}

// P13.1: many entries
func TestMany(t *testing.T) {
	const n = 1000
	x := New(schemaOf(api.Ternary, 16))
	for i := range n {
		// Multiplication with a number that has no factor in common with n permutes the priorities.
		if at := i * 7 % n; !x.Put(installed(i, 1+at, ternary(uint64(at%16), 15))) {
			t.Fatalf("Put %d", i)
		}
	}
	for v := range uint64(16) {
		want := n - n%16 + int(v)
		if want >= n {
			want -= 16
		}
		if i, ok := x.Lookup(api.Point{of(v + 160)}); !ok || i.Entry.Priority != 1+want {
			t.Errorf("%d: the priority %d, not %d", v, i.Entry.Priority, 1+want)
		}
	}
	for at, i := range x.All() {
		if i.Entry.Priority != n-at {
			t.Fatalf("the priority %d has the index %d", i.Entry.Priority, at)
		}
	}
	for i := range n {
		if x.Len() != n-i || !x.Remove(i) {
			t.Fatalf("Remove %d", i)
		}
	}
}

// scramble changes all memory of an installed entry.
func scramble(i api.Installed) {
	for k := range i.Entry.Matches {
		i.Entry.Matches[k] = api.Match{Present: true, Value: of(77), Prefix: 77}
	}
	for k := range i.Entry.Args {
		i.Entry.Args[k] = of(78)
	}
}

// P13.1: a List shares no memory with arguments and results, nor results with each other (rule R3)
func TestSharing(t *testing.T) {
	keys := []int{api.LPM, 3, api.Ternary, 2}
	s := schemaOf(keys...)
	x, y, o := New(s), New(s), &oracle{keys: keys}
	for n := range 6 {
		m := none()
		if n > 0 {
			m = prefix(0, 1+n%3)
		}
		i := installed(n, 1+n%2, m, ternary(uint64(n%2), 1))
		o.put(installed(n, 1+n%2, m, ternary(uint64(n%2), 1)))
		x.Put(i)
		scramble(i)
	}
	// The schema is changed behind the calls, too.
	s.Fields[2].Bits, s.Fields[3].Bits = 1, 1
	s.Tables[1].Keys[0].Kind = api.Exact
	s.Tables[1].ID = 99
	points := pointsOf(keys...)
	o.check(t, x, points...)
	before := x.All()
	for _, p := range points {
		found, _ := x.Lookup(p)
		scramble(found)
	}
	for _, i := range x.All() {
		scramble(i)
	}
	clear(append(x.All(), api.Installed{}))
	o.check(t, x, points...)
	if !slices.EqualFunc(before, o.all(), same) {
		t.Error("a result is changed by a change of another one")
	}
	x.Remove(3)
	x.Put(installed(30, 1, none(), none()))
	if !slices.EqualFunc(before, o.all(), same) || y.Len() != 0 {
		t.Error("a result, or another List, is changed by a later call")
	}
}

// P13.1: arguments are not changed (rule R3)
func TestArguments(t *testing.T) {
	s := schemaOf(api.Range, 2)
	x := New(s)
	i := installed(1, 2, between(1, 2))
	x.Put(i)
	x.Put(installed(2, 1, none()))
	if !same(i, installed(1, 2, between(1, 2))) || fmt.Sprint(s) != fmt.Sprint(schemaOf(api.Range, 2)) {
		t.Errorf("%+v, %+v", i, s)
	}
}

// P13.1: on a nil *List, results are zero, and nothing happens
func TestNil(t *testing.T) {
	var x *List
	for range 2 {
		if x.Put(installed(1, 1, none())) || x.Remove(1) || x.Remove(0) || x.Len() != 0 || len(x.All()) != 0 {
			t.Error("a nil List has entries")
		}
		if i, ok := x.Lookup(api.Point{}); ok || !same(i, api.Installed{}) {
			t.Errorf("%+v is found", i)
		}
	}
}

// A List that New did not make, and entries for which nothing is promised, lead to no panic (rule R1).
func TestAnything(t *testing.T) {
	var zero List
	bad := schemaOf(api.Ternary, 200, api.LPM, -5, 9, 8, api.LPM, 3, api.Exact, 1)
	bad.Tables[1].Keys[2].Field = 12345
	for _, x := range []*List{&zero, New(api.Schema{}), New(bad), New(schemaOf(api.LPM, 8))} {
		number := 0
		for _, id := range []int{table, 9, 0, -1} {
			for keys := range 6 {
				for _, m := range []api.Match{none(), prefix(1, -1), prefix(1, 500), prefix(math.MaxUint64, math.MinInt), between(5, 1), ternary(3, 0)} {
					i := installed(number, number%3-1, slices.Repeat([]api.Match{m}, keys)...)
					i.Entry.Table = id
					if !x.Put(i) || x.Put(i) {
						t.Errorf("Put %+v", i)
					}
					number++
					x.Lookup(api.Point{of(1), of(1), of(1), of(1)})
					x.Lookup(api.Point{{Hi: math.MaxUint64, Lo: math.MaxUint64}})
				}
			}
		}
		if x.Len() != number || len(x.All()) != number {
			t.Errorf("%d of %d entries", x.Len(), number)
		}
		for n := range number {
			if !x.Remove(n) {
				t.Errorf("Remove(%d)", n)
			}
		}
	}
}
