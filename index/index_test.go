package index

import (
	"fmt"
	"math"
	"math/rand"
	"slices"
	"testing"

	"matchguard/api"
	"matchguard/check"
	"matchguard/entry"
	"matchguard/types"
)

// layouts are the Kinds and bits of the keys of tables, of all kinds of indexes.
var layouts = [][]int{
	{api.Exact, 3}, {api.Exact, 1, api.Exact, 2}, {api.Exact, 1, api.Exact, 1, api.Exact, 1, api.Exact, 1},
	{api.LPM, 3}, {api.Exact, 1, api.LPM, 2}, {api.LPM, 2, api.Exact, 1}, {api.Exact, 1, api.LPM, 2, api.Exact, 1}, {api.Exact, 1, api.Exact, 1, api.Exact, 1, api.LPM, 2}, {api.LPM, 1, api.Exact, 1, api.Exact, 1, api.Exact, 1},
	{api.Ternary, 2}, {api.Range, 2}, {api.Ternary, 2, api.Range, 2}, {api.LPM, 2, api.Ternary, 2}, {api.Range, 2, api.LPM, 2}, {api.Ternary, 1, api.Range, 1, api.Exact, 1, api.LPM, 2}, {api.Exact, 2, api.Ternary, 2},
}

func TestSamples(t *testing.T) {
	for _, keys := range layouts {
		s := schemaOf(keys...)
		if check.Check(s) != api.OK || types.All(s) != api.OK {
			t.Errorf("%v: the errors %d, %d", keys, check.Check(s), types.All(s))
		}
		for _, l := range entriesOf(keys...) {
			i := installed(1, somePriority(rand.New(rand.NewSource(1)), keys), l...)
			if code := entry.Check(s, i.Entry); code != api.OK {
				t.Errorf("%v: %+v has the error %d", keys, l, code)
			}
		}
	}
}

// P14.1 New: an Index without entries, or nil if there is no such table
func TestNew(t *testing.T) {
	for _, keys := range layouts {
		x, o := pair(keys...)
		if x == nil {
			t.Fatalf("%v: New returns nil", keys)
		}
		o.check(t, x, pointsOf(keys...)...)
		for _, l := range entriesOf(keys...) {
			if i, ok := x.Remove(installed(1, 1, l...).Entry); ok || !same(i, api.Installed{}) {
				t.Errorf("%+v is removed", i)
			}
			if i, ok := x.Find(installed(1, 1, l...).Entry); ok || !same(i, api.Installed{}) {
				t.Errorf("%+v is found", i)
			}
		}
		for _, id := range []int{0, 1, -1, 8, 11, 20, 100, table + 1<<32, math.MaxInt, math.MinInt} {
			if New(schemaOf(keys...), id) != nil {
				t.Errorf("there is a table %d", id)
			}
		}
	}
	if New(api.Schema{}, 0) != nil || New(api.Schema{}, table) != nil {
		t.Error("a schema without tables has one")
	}
}

// P14.1 New: the first table of a schema, with a key of its first field
func TestFirst(t *testing.T) {
	x := New(schemaOf(api.Exact, 1), 9)
	if x.Kind() != Prefixed {
		t.Fatalf("the kind %d", x.Kind())
	}
	i := installed(5, 0, prefix(0xfffe, 15))
	i.Entry.Table = 9
	if x.Put(installed(5, 0, prefix(0xfffe, 15))) || !x.Put(i) {
		t.Error("Put")
	}
	for v, want := range map[uint64]bool{0xfffe: true, 0xffff: true, 0xfffd: false, 0x7fff: false, 0: false} {
		if got, ok := x.Lookup(api.Point{of(v)}); ok != want || ok && !same(got, i) {
			t.Errorf("%x: %+v, %t", v, got, ok)
		}
	}
}

// P14.1 Kind: all lists of up to four Kinds
func TestKind(t *testing.T) {
	if Hashed != 1 || Prefixed != 2 || Ordered != 3 {
		t.Error("the numbers of the kinds")
	}
	found := map[int]int{}
	for n := range 5 * 5 * 5 * 5 {
		var keys []int
		counts := map[int]int{}
		for rest := n; rest > 0; rest /= 5 {
			if kind := rest % 5; kind > 0 {
				keys = append(keys, kind, 8)
				counts[kind]++
			}
		}
		want := Ordered
		switch {
		case counts[api.Ternary] > 0 || counts[api.Range] > 0 || counts[api.LPM] > 1:
		case counts[api.LPM] == 1:
			want = Prefixed
		default:
			want = Hashed
		}
		if got := New(schemaOf(keys...), table).Kind(); got != want {
			t.Errorf("%v: %d, not %d", keys, got, want)
		}
		found[want]++
	}
	if len(found) != 3 {
		t.Errorf("%v", found)
	}
}

// P14.1: the document's example
func TestExample(t *testing.T) {
	x, o := pair(api.LPM, 32, api.Exact, 8)
	if x.Kind() != Prefixed {
		t.Errorf("the kind %d", x.Kind())
	}
	for _, i := range []api.Installed{installed(1, 0, prefix(0x0a000000, 8), one(1)), installed(2, 0, prefix(0x0a010000, 16), one(1)), installed(3, 0, prefix(0x0a010000, 16), one(2)), installed(4, 0, none(), one(1))} {
		if !x.Put(i) || !o.put(i) {
			t.Errorf("Put %d", i.Number)
		}
	}
	for _, m := range []uint64{0, 1, 2, 255} {
		for _, d := range []uint64{0, 0x0a010203, 0x0a020203, 0x0a01ffff, 0x0a020000, 0x0b000000, math.MaxUint32} {
			o.check(t, x, api.Point{of(d), of(m)})
		}
	}
}

// P14.1 Put: the same key, or the same Number, is there; nothing else of an entry counts
func TestPutAgain(t *testing.T) {
	for _, keys := range layouts {
		l, points := entriesOf(keys...), pointsOf(keys...)
		priority := 0
		if needsPriority(keys) {
			priority = 5
		}
		for at := range l {
			x, o := pair(keys...)
			first := installed(4, priority, l[at]...)
			if !x.Put(first) || !o.put(first) {
				t.Fatalf("Put(%+v)", first)
			}
			var again []api.Installed
			for _, number := range []int{4, 3, 5, 0, -4, math.MaxInt, math.MinInt, 1<<32 + 4} {
				i := first
				i.Number = number
				again = append(again, i)
			}
			other := installed(9, priority, l[at]...)
			other.Entry.Action, other.Entry.Args, other.Owner = 77, nil, 78
			again = append(again, other, installed(4, priority, l[(at+1)%len(l)]...))
			for _, i := range again {
				if x.Put(i) {
					t.Fatalf("%+v is added behind %+v", i, first)
				}
			}
			o.check(t, x, points[at%len(points)], points[0])
			next := installed(5, priority, l[(at+1)%len(l)]...)
			if !x.Put(next) || !o.put(next) {
				t.Fatalf("Put(%+v)", next)
			}
			o.check(t, x, points...)
		}
	}
}

// P14.1 Put: priorities are a part of the key
func TestPriorities(t *testing.T) {
	x, o := pair(api.Ternary, 2)
	for n, priority := range []int{7, 3, 65535, 1, 8} {
		i := installed(n, priority, ternary(1, 1))
		if !x.Put(i) || !o.put(i) || x.Put(installed(50, priority, ternary(1, 1))) {
			t.Errorf("the priority %d", priority)
		}
		o.check(t, x, pointsOf(api.Ternary, 2)...)
	}
	for _, priority := range []int{2, 4, 65535, 3, 7, 9} {
		e := installed(0, priority, ternary(1, 1)).Entry
		o.checkFind(t, x, e)
		got, ok := x.Remove(e)
		want, there := o.remove(e)
		if ok != there || !same(got, want) {
			t.Errorf("Remove with the priority %d: %+v, %t", priority, got, ok)
		}
		o.check(t, x, pointsOf(api.Ternary, 2)...)
	}
}

// P14.1: all points, and all sets of up to two entries of tables with few bits, or some of them if they are many
func TestSmall(t *testing.T) {
	for _, keys := range layouts {
		l, points := entriesOf(keys...), pointsOf(keys...)
		step := 1 + len(l)/16
		for a := range l {
			for b := a % step; b <= a; b += step {
				for _, priorities := range [][2]int{{1, 1}, {1, 2}, {2, 1}} {
					if !needsPriority(keys) {
						priorities = [2]int{}
					}
					x, o := pair(keys...)
					first, second := installed(8, priorities[0], l[a]...), installed(9, priorities[1], l[b]...)
					if x.Put(first) != o.put(first) || x.Put(second) != o.put(second) {
						t.Fatalf("Put of %+v, %+v", first, second)
					}
					o.check(t, x, points...)
					o.checkFind(t, x, first.Entry, second.Entry)
					got, ok := x.Remove(second.Entry)
					if want, there := o.remove(second.Entry); ok != there || !same(got, want) {
						t.Fatalf("Remove: %+v, %t, not %+v", got, ok, want)
					}
					o.check(t, x, points...)
					o.checkFind(t, x, first.Entry, second.Entry)
				}
			}
		}
	}
}

// P14.1 Find, Remove: only the key counts; an entry is removed once, and can be added again
func TestRemove(t *testing.T) {
	for _, keys := range layouts {
		l, points := entriesOf(keys...), pointsOf(keys...)
		x, o := pair(keys...)
		priority := 0
		if needsPriority(keys) {
			priority = 2
		}
		for n, m := range l[:min(len(l), 12)] {
			x.Put(installed(n-3, priority, m...))
			o.put(installed(n-3, priority, m...))
		}
		o.check(t, x, points...)
		for n, m := range l[:min(len(l), 14)] {
			e := api.Entry{Table: table, Matches: m, Priority: priority, Action: 99, Args: []api.Value{of(1), of(2)}}
			o.checkFind(t, x, e)
			want, there := o.remove(e)
			got, ok := x.Remove(e)
			if ok != there || !same(got, want) {
				t.Fatalf("%v: Remove(%+v): %+v, %t, not %+v", keys, e, got, ok, want)
			}
			if got, ok := x.Remove(e); ok || !same(got, api.Installed{}) {
				t.Fatalf("%v: %+v is removed twice", keys, got)
			}
			o.checkFind(t, x, e)
			o.check(t, x, points...)
			if n%2 == 0 {
				again := installed(100+n, priority, m...)
				if !x.Put(again) || !o.put(again) {
					t.Fatalf("%+v is not added again", again)
				}
				o.check(t, x, points...)
			}
		}
		for _, i := range x.All() {
			if got, ok := x.Remove(i.Entry); !ok || !same(got, i) {
				t.Errorf("%+v is not removed", i)
			}
		}
		o.entries = nil
		o.check(t, x, points...)
	}
}

// An index that is empty again keeps nothing for values that it had.
func TestForgotten(t *testing.T) {
	x, _ := pair(api.Exact, 3, api.LPM, 3)
	l := entriesOf(api.Exact, 3, api.LPM, 3)
	for n, m := range l {
		x.Put(installed(n, 0, m...))
	}
	tries := x.finder.(*prefixed).tries
	if len(tries) != 8 {
		t.Errorf("%d tries", len(tries))
	}
	for n, m := range l {
		x.Remove(installed(n, 0, m...).Entry)
	}
	if len(tries) != 0 || len(x.entries) != 0 {
		t.Errorf("%d tries are left, %d entries", len(tries), len(x.entries))
	}
}

// P14.1, P14.2: random calls, against the oracle
func TestRandomCalls(t *testing.T) {
	counts := map[string]int{}
	for seed := range int64(160) {
		c := rand.New(rand.NewSource(seed))
		keys := layouts[int(seed)%len(layouts)]
		x, o := pair(keys...)
		l, points := entriesOf(keys...), pointsOf(keys...)
		for range 80 {
			i := installed(c.Intn(24)-8, somePriority(c, keys), pick(c, l)...)
			if len(o.entries) > 0 && c.Intn(4) == 0 {
				i.Entry = pick(c, o.entries).Entry
			}
			switch c.Intn(3) {
			case 0:
				want, there := o.remove(i.Entry)
				if got, ok := x.Remove(i.Entry); ok != there || !same(got, want) {
					t.Fatalf("seed %d: Remove(%+v): %+v, %t, not %+v", seed, i, got, ok, want)
				}
				counts[fmt.Sprint("removed ", there)]++
			default:
				added := o.put(i)
				if x.Put(i) != added {
					t.Fatalf("seed %d: Put(%+v) is not %t", seed, i, added)
				}
				counts[fmt.Sprint("added ", added)]++
			}
			p := pick(c, points)
			_, ok := o.lookup(p)
			counts[fmt.Sprint("found ", ok)]++
			o.check(t, x, p)
			o.checkFind(t, x, i.Entry, installed(0, somePriority(c, keys), pick(c, l)...).Entry)
		}
		o.check(t, x, points...)
	}
	for _, what := range []string{"added true", "added false", "removed true", "removed false", "found true", "found false"} {
		if counts[what] < 1000 {
			t.Errorf("the calls are not diverse enough: %v", counts)
		}
	}
}

// P14.2: results depend only on the entries that are there
func TestAnyOrder(t *testing.T) {
	for seed := range int64(160) {
		c := rand.New(rand.NewSource(seed))
		keys := layouts[int(seed)%len(layouts)]
		l, points := entriesOf(keys...), pointsOf(keys...)
		o := &oracle{keys: keys}
		for n := range 12 {
			o.put(installed(n, somePriority(c, keys), pick(c, l)...))
		}
		for range 5 {
			x := New(schemaOf(keys...), table)
			for _, i := range o.entries {
				// What is removed again leaves no trace.
				if c.Intn(2) == 0 {
					other := installed(i.Number, somePriority(c, keys), pick(c, l)...)
					x.Put(other)
					x.Lookup(pick(c, points))
					x.Remove(other.Entry)
				}
			}
			for _, at := range c.Perm(len(o.entries)) {
				x.Put(o.entries[at])
			}
			for range 3 {
				o.check(t, x, points...)
			}
		}
	}
}

// P14.2: Lookup does not depend on the kind of the index: the same prefixes and values as masks and intervals of a table with priorities, which are the lengths of the prefixes
func TestOtherKinds(t *testing.T) {
	for seed := range int64(60) {
		c := rand.New(rand.NewSource(seed))
		first, _ := pair(api.LPM, 4, api.Exact, 1)
		masks, _ := pair(api.Ternary, 4, api.Exact, 1)
		intervals, _ := pair(api.Range, 4, api.Range, 1)
		for n := range 12 {
			m := pick(c, canonical(api.LPM, 4))
			e := uint64(c.Intn(2))
			mask, interval := none(), none()
			if m.Present {
				fixed := uint64(15) &^ (15 >> m.Prefix)
				mask, interval = ternary(m.Value.Lo, fixed), between(m.Value.Lo, m.Value.Lo|15&^fixed)
			}
			a := first.Put(installed(n, 0, m, one(e)))
			b := masks.Put(installed(n, 1+m.Prefix, mask, one(e)))
			if d := intervals.Put(installed(n, 1+m.Prefix, interval, between(e, e))); a != b || a != d {
				t.Fatalf("Put: %t, %t, %t", a, b, d)
			}
		}
		for _, p := range pointsOf(api.LPM, 4, api.Exact, 1) {
			a, _ := first.Lookup(p)
			b, _ := masks.Lookup(p)
			d, _ := intervals.Lookup(p)
			if a.Number != b.Number || a.Number != d.Number || a.Owner != b.Owner {
				t.Fatalf("%v: %d, %d, %d", p, a.Number, b.Number, d.Number)
			}
		}
	}
}

// P14.1 Lookup: points with values that do not fit their keys are no others for entry.Matches
func TestGreaterValues(t *testing.T) {
	const all = math.MaxUint64
	values := []api.Value{{}, of(1), of(2), of(3), of(4), of(7), of(8), of(1 << 32), {Hi: 1}, {Hi: 1, Lo: 2}, {Hi: 1 << 63, Lo: 3}, {Hi: all, Lo: all}}
	for _, keys := range layouts {
		c, l := rand.New(rand.NewSource(int64(len(keys)))), entriesOf(keys...)
		for range 6 {
			x, o := pair(keys...)
			for n := range 8 {
				i := installed(n, somePriority(c, keys), pick(c, l)...)
				if x.Put(i) != o.put(i) {
					t.Fatalf("Put(%+v)", i)
				}
			}
			for range 100 {
				o.check(t, x, api.Point{pick(c, values), pick(c, values), pick(c, values), pick(c, values)})
			}
		}
	}
}

// P14.1: prefixes and values of all numbers of bits, at the ends of what they cover
func TestBits(t *testing.T) {
	found := map[bool]int{}
	for bits := 1; bits <= api.MaxBits; bits += 1 + bits/8%3 {
		x, o := pair(api.Exact, bits, api.LPM, bits)
		e := api.Match{Present: true, Value: bit(bits - 1)}
		// The prefixes are ever longer beginnings of 1010101..
		var v api.Value
		number := 0
		for n := range bits + 1 {
			m := none()
			if n > 0 {
				if n%2 == 1 {
					v = or(v, bit(bits-n))
				}
				m = api.Match{Present: true, Value: v, Prefix: n}
			}
			if n%3 == 0 || n == bits || n == 1 {
				number++
				i := installed(number, 0, e, m)
				if !x.Put(i) || !o.put(i) || x.Put(i) {
					t.Fatalf("%d bits: Put(%+v)", bits, i)
				}
			}
		}
		var points []api.Point
		for n := range bits {
			for _, w := range []api.Value{xor(v, bit(n)), or(v, bit(n)), bit(n), v} {
				points = append(points, api.Point{e.Value, w}, api.Point{{}, w}, api.Point{w, w})
				if bits < api.MaxBits {
					points = append(points, api.Point{e.Value, or(w, bit(bits))}, api.Point{or(e.Value, bit(bits)), w})
				}
			}
		}
		o.check(t, x, points...)
		for _, p := range points {
			_, ok := x.Lookup(p)
			found[ok]++
		}
		for _, i := range x.All() {
			if _, ok := x.Remove(i.Entry); !ok {
				t.Fatalf("%d bits: Remove(%+v)", bits, i)
			}
			o.remove(i.Entry)
			o.check(t, x, points[:12]...)
		}
	}
	if found[true] < 1000 || found[false] < 1000 {
		t.Errorf("the points are not diverse enough: %v", found)
	}
}

// bit returns 2^n.
func bit(n int) api.Value {
	if n >= 64 {
		return api.Value{Hi: 1 << (n - 64)}
	}
	return of(1 << n)
}

func or(a, b api.Value) api.Value  { return api.Value{Hi: a.Hi | b.Hi, Lo: a.Lo | b.Lo} }
func xor(a, b api.Value) api.Value { return api.Value{Hi: a.Hi ^ b.Hi, Lo: a.Lo ^ b.Lo} }

// P14.1: many entries of each kind
func TestMany(t *testing.T) {
	const n = 400
	for _, keys := range [][]int{{api.Exact, 16}, {api.LPM, 16}, {api.Ternary, 16}} {
		x := New(schemaOf(keys...), table)
		at := func(i int) api.Installed {
			// Multiplication with an odd number permutes the values.
			v := uint64(i) * 40503 % 65536
			switch keys[0] {
			case api.LPM:
				return installed(i, 0, prefix(v, 16))
			case api.Ternary:
				return installed(i, 1, ternary(v, 65535))
			}
			return installed(i, 0, one(v))
		}
		for i := range n {
			if !x.Put(at(i)) {
				t.Fatalf("Put %d", i)
			}
		}
		all := x.All()
		if len(all) != n || !slices.IsSortedFunc(all, func(a, b api.Installed) int { return entry.Compare(a.Entry, b.Entry) }) {
			t.Errorf("%d entries", len(all))
		}
		for i := range n {
			if got, ok := x.Lookup(api.Point{at(i).Entry.Matches[0].Value}); !ok || !same(got, at(i)) {
				t.Errorf("%d: %+v is found", i, got)
			}
			if got, ok := x.Remove(at(i).Entry); !ok || !same(got, at(i)) || x.Len() != n-i-1 {
				t.Fatalf("Remove %d: %+v", i, got)
			}
		}
	}
}

// scramble changes all memory of an installed entry.
func scramble(i api.Installed) {
	for k := range i.Entry.Matches {
		i.Entry.Matches[k] = api.Match{Present: true, Value: of(77), Prefix: 77}
	}
	for k := range i.Entry.Args {
		i.Entry.Args[k] = of(78)
	}
}

// P14.1: an Index shares no memory with arguments and results, nor results with each other (rule R3)
func TestSharing(t *testing.T) {
	for _, keys := range layouts {
		s := schemaOf(keys...)
		x, y, o := New(s, table), New(s, table), &oracle{keys: keys}
		priority := 0
		if needsPriority(keys) {
			priority = 3
		}
		l, points := entriesOf(keys...), pointsOf(keys...)
		for n := range 6 {
			i := installed(n, priority, slices.Clone(l[n])...)
			o.put(installed(n, priority, l[n]...))
			x.Put(i)
			scramble(i)
		}
		// The schema is changed behind the calls, too.
		for i := range s.Fields {
			s.Fields[i].Bits = 1
		}
		for i := range s.Tables[1].Keys {
			s.Tables[1].Keys[i].Kind = api.Exact
		}
		s.Tables[1].ID = 99
		o.check(t, x, points...)
		if !x.Put(installed(50, priority, l[6]...)) || !o.put(installed(50, priority, l[6]...)) {
			t.Error("Put behind a change of the schema")
		}
		before := x.All()
		for _, p := range points {
			found, _ := x.Lookup(p)
			scramble(found)
		}
		for _, i := range x.All() {
			found, _ := x.Find(i.Entry)
			scramble(found)
			scramble(i)
		}
		clear(append(x.All(), api.Installed{}))
		o.check(t, x, points...)
		gone, _ := x.Remove(installed(3, priority, l[3]...).Entry)
		if !same(gone, installed(3, priority, l[3]...)) || !slices.EqualFunc(before, o.all(), same) {
			t.Error("a result is changed by a change of another one, or by a later call")
		}
		scramble(gone)
		o.remove(installed(3, priority, l[3]...).Entry)
		o.check(t, x, points...)
		if y.Len() != 0 {
			t.Error("entries of an Index are in another one")
		}
	}
}

// P14.1: arguments are not changed (rule R3)
func TestArguments(t *testing.T) {
	for _, keys := range layouts {
		s := schemaOf(keys...)
		x := New(s, table)
		for n, l := range entriesOf(keys...)[:3] {
			i := installed(n, 1, slices.Clone(l)...)
			x.Put(i)
			x.Find(i.Entry)
			x.Remove(i.Entry)
			if !same(i, installed(n, 1, l...)) {
				t.Errorf("%+v", i)
			}
		}
		if fmt.Sprint(s) != fmt.Sprint(schemaOf(keys...)) {
			t.Errorf("%+v", s)
		}
	}
}

// P14.1: on a nil *Index, results are zero, and nothing happens; the same holds for the zero Index, lest it panic (rule R1)
func TestNil(t *testing.T) {
	var zero Index
	for _, x := range []*Index{nil, &zero} {
		for range 2 {
			for _, e := range []api.Entry{installed(1, 0, one(1)).Entry, {}} {
				if x.Put(api.Installed{Entry: e, Number: 1}) || x.Kind() != 0 || x.Len() != 0 || len(x.All()) != 0 {
					t.Error("an entry is added")
				}
				if i, ok := x.Remove(e); ok || !same(i, api.Installed{}) {
					t.Errorf("%+v is removed", i)
				}
				if i, ok := x.Find(e); ok || !same(i, api.Installed{}) {
					t.Errorf("%+v is found", i)
				}
				if i, ok := x.Lookup(api.Point{of(1)}); ok || !same(i, api.Installed{}) {
					t.Errorf("%+v is looked up", i)
				}
			}
		}
	}
}

// strange returns entries for most of which nothing is promised.
func strange() []api.Entry {
	var l []api.Entry
	for _, id := range []int{table, 9, 0, -1} {
		for keys := range 7 {
			for n, m := range []api.Match{none(), one(1), prefix(1, -1), prefix(1, 500), prefix(0, 3), prefix(math.MaxUint64, math.MinInt), between(5, 1), ternary(3, 0)} {
				l = append(l, api.Entry{Table: id, Matches: slices.Repeat([]api.Match{m}, keys), Priority: n%3 - 1})
			}
		}
	}
	return l
}

// Entries and schemas for which nothing is promised lead to no panic (rule R1).
func TestAnything(t *testing.T) {
	lost := schemaOf(api.Exact, 1, api.LPM, 4)
	lost.Tables[1].Keys[1].Field = 12345
	for n, s := range []api.Schema{
		lost, schemaOf(), schemaOf(api.LPM, 200), schemaOf(api.LPM, -5, api.Exact, 200), schemaOf(api.LPM, 0), schemaOf(api.LPM, math.MinInt), schemaOf(api.LPM, math.MaxInt), schemaOf(api.LPM, 4, api.LPM, 4), schemaOf(9, 8, 0, 4),
		schemaOf(slices.Repeat([]int{api.Exact, 1}, 5)...), schemaOf(slices.Repeat([]int{api.Exact, 1}, 6)...), schemaOf(api.Exact, 1, api.Exact, 1, api.Exact, 1, api.Exact, 1, api.LPM, 4), schemaOf(slices.Repeat([]int{api.Ternary, 1}, 6)...),
	} {
		x := New(s, table)
		for number, e := range strange() {
			x.Put(api.Installed{Entry: e, Number: number})
			x.Find(e)
			x.Lookup(api.Point{of(1), of(1), of(1), of(1)})
			x.Lookup(api.Point{{Hi: math.MaxUint64, Lo: math.MaxUint64}})
		}
		if x.Len() != len(x.All()) {
			t.Errorf("schema %d: %d entries, %d in All", n, x.Len(), len(x.All()))
		}
		for _, e := range strange() {
			x.Remove(e)
		}
		if x.Len() != 0 {
			t.Errorf("schema %d: %d entries are left", n, x.Len())
		}
	}
}

// Entries for which nothing is promised are not added, so that those behind them are found as ever (rule R1).
func TestRefused(t *testing.T) {
	for _, keys := range layouts {
		x, o := pair(keys...)
		s, c := schemaOf(keys...), rand.New(rand.NewSource(1))
		for n, e := range strange() {
			if code := entry.CheckKey(s, e); (code != api.OK || e.Table != table) && x.Put(api.Installed{Entry: e, Number: n}) {
				t.Fatalf("%v: %+v is added, the error %d", keys, e, code)
			}
		}
		for n := range 10 {
			i := installed(n, somePriority(c, keys), pick(c, entriesOf(keys...))...)
			if x.Put(i) != o.put(i) {
				t.Fatalf("Put(%+v)", i)
			}
			x.Remove(pick(c, strange()))
			o.check(t, x, pointsOf(keys...)[0])
		}
		o.check(t, x, pointsOf(keys...)...)
	}
}
