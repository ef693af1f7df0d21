package index

import (
	"fmt"
	"math/rand"
	"slices"
	"strings"
	"testing"

	"matchguard/api"
)

// The oracle of these tests is a list of entries in the order of the calls, of which the best one is sought, whatever the kind of the index is. It computes with values as texts of 128 digits 0 and 1, the highest bit first.

// table is the ID of the table of the tests; it is not the first one of the schema.
const table = 10

// schemaOf is a schema with a table whose keys have these Kinds and bits.
func schemaOf(keys ...int) api.Schema {
	s := api.Schema{
		Fields:  []api.Field{{ID: 1, Name: "in", Bits: 16}, {ID: 2, Name: "out", Bits: 16}},
		Actions: []api.Action{{ID: 20, Name: "plain", Params: []api.Param{{Name: "p", Bits: 16}}}},
		Tables: []api.Table{
			{ID: 9, Name: "other", Keys: []api.Key{{Name: "k", Field: 1, Kind: api.LPM}}, Actions: []int{20}, Default: 20, DefaultArgs: []api.Value{{}}, Size: 1},
			{ID: table, Name: "t", Actions: []int{20}, Default: 20, DefaultArgs: []api.Value{{}}, Size: 1},
		},
		MaxBatch: 1, Budget: 1,
	}
	for i := 0; i < len(keys); i += 2 {
		name := "f" + string(rune('a'+i))
		s.Fields = append(s.Fields, api.Field{ID: 100 - i, Name: name, Bits: keys[i+1]})
		s.Tables[1].Keys = append(s.Tables[1].Keys, api.Key{Name: name, Field: 100 - i, Kind: keys[i]})
	}
	return s
}

// oracle is an index of the oracle; keys are the Kinds and bits of its table.
type oracle struct {
	keys    []int
	entries []api.Installed
}

// textOf writes a value without fmt, which would take most of the time of the tests.
func textOf(v api.Value) string {
	var digits [api.MaxBits]byte
	for i := range digits {
		word := v.Hi
		if i >= 64 {
			word = v.Lo
		}
		digits[i] = '0' + byte(word>>(63-i%64)&1)
	}
	return string(digits[:])
}

// keyOf returns a text for the key of an entry; the order of these texts is the canonical one.
func keyOf(e api.Entry) string {
	l := []string{fmt.Sprintf("%05d", 65535-e.Priority)}
	for _, m := range e.Matches {
		if !m.Present {
			l = append(l, "absent")
			continue
		}
		l = append(l, "present", textOf(m.Value), textOf(m.Mask), fmt.Sprintf("%03d", m.Prefix), textOf(m.High))
	}
	return strings.Join(l, " ")
}

// covers reports whether a match covers a value.
func covers(m api.Match, kind, bits int, v api.Value) bool {
	if !m.Present || kind == api.Exact {
		return !m.Present || m.Value == v
	}
	low, at := textOf(m.Value), textOf(v)
	switch kind {
	case api.LPM:
		end := 128 - bits + m.Prefix
		return at[128-bits:end] == low[128-bits:end]
	case api.Ternary:
		mask := textOf(m.Mask)
		for i := range at {
			if mask[i] == '1' && at[i] != low[i] {
				return false
			}
		}
		return true
	}
	return low <= at && at <= textOf(m.High)
}

// matches reports whether an entry matches a point.
func (o *oracle) matches(i api.Installed, p api.Point) bool {
	for k, m := range i.Entry.Matches {
		if !covers(m, o.keys[2*k], o.keys[2*k+1], p[k]) {
			return false
		}
	}
	return true
}

// rank returns what decides which entry wins.
func (o *oracle) rank(i api.Installed) []int {
	prefix := 0
	for k, m := range i.Entry.Matches {
		if o.keys[2*k] == api.LPM {
			prefix = m.Prefix
		}
	}
	return []int{i.Entry.Priority, prefix, i.Number}
}

func (o *oracle) at(e api.Entry) int {
	return slices.IndexFunc(o.entries, func(i api.Installed) bool { return keyOf(i.Entry) == keyOf(e) })
}

func (o *oracle) put(i api.Installed) bool {
	if o.at(i.Entry) >= 0 || slices.ContainsFunc(o.entries, func(x api.Installed) bool { return x.Number == i.Number }) {
		return false
	}
	o.entries = append(o.entries, i)
	return true
}

func (o *oracle) find(e api.Entry) (api.Installed, bool) {
	if at := o.at(e); at >= 0 {
		return o.entries[at], true
	}
	return api.Installed{}, false
}

func (o *oracle) remove(e api.Entry) (api.Installed, bool) {
	i, there := o.find(e)
	if there {
		at := o.at(e)
		o.entries = slices.Delete(slices.Clone(o.entries), at, at+1)
	}
	return i, there
}

func (o *oracle) lookup(p api.Point) (api.Installed, bool) {
	var best api.Installed
	found := false
	for _, i := range o.entries {
		if o.matches(i, p) && (!found || slices.Compare(o.rank(i), o.rank(best)) > 0) {
			best, found = i, true
		}
	}
	return best, found
}

func (o *oracle) all() []api.Installed {
	return slices.SortedFunc(slices.Values(o.entries), func(a, b api.Installed) int { return strings.Compare(keyOf(a.Entry), keyOf(b.Entry)) })
}

// same reports whether two installed entries are equal.
func same(a, b api.Installed) bool {
	return a.Number == b.Number && a.Owner == b.Owner && a.Entry.Table == b.Entry.Table && a.Entry.Priority == b.Entry.Priority && a.Entry.Action == b.Entry.Action && slices.Equal(a.Entry.Matches, b.Entry.Matches) && slices.Equal(a.Entry.Args, b.Entry.Args)
}

// check compares all entries, and the results of lookups, with those of an Index.
func (o *oracle) check(t *testing.T, x *Index, points ...api.Point) {
	t.Helper()
	got, want := x.All(), o.all()
	if !slices.EqualFunc(got, want, same) || x.Len() != len(want) {
		t.Fatalf("%d entries: %+v, not %+v", x.Len(), got, want)
	}
	for _, p := range points {
		want, there := o.lookup(p)
		if got, ok := x.Lookup(p); ok != there || !same(got, want) {
			t.Fatalf("%v: %+v, %t, not %+v, %t", p, got, ok, want, there)
		}
	}
}

// checkFind compares the results of Find for entries.
func (o *oracle) checkFind(t *testing.T, x *Index, l ...api.Entry) {
	t.Helper()
	for _, e := range l {
		want, there := o.find(e)
		if got, ok := x.Find(e); ok != there || !same(got, want) {
			t.Fatalf("Find(%+v): %+v, %t, not %+v, %t", e, got, ok, want, there)
		}
	}
}

// pair makes an empty Index and its oracle for a table whose keys have these Kinds and bits.
func pair(keys ...int) (*Index, *oracle) {
	return New(schemaOf(keys...), table), &oracle{keys: keys}
}

// installed returns an installed entry, whose owner and argument depend on its number.
func installed(number, priority int, l ...api.Match) api.Installed {
	return api.Installed{Entry: api.Entry{Table: table, Matches: l, Priority: priority, Action: 20, Args: []api.Value{of(uint64(number) % 60000)}}, Number: number, Owner: number % 7}
}

func of(n uint64) api.Value { return api.Value{Lo: n} }

// one, prefix, ternary and between are matches, none is one that matches everything.
func one(n uint64) api.Match { return api.Match{Present: true, Value: of(n)} }
func prefix(n uint64, length int) api.Match {
	return api.Match{Present: true, Value: of(n), Prefix: length}
}
func ternary(n, mask uint64) api.Match {
	return api.Match{Present: true, Value: of(n), Mask: of(mask)}
}
func between(low, high uint64) api.Match {
	return api.Match{Present: true, Value: of(low), High: of(high)}
}
func none() api.Match { return api.Match{} }

// canonical returns all canonical matches of a Kind and few bits.
func canonical(kind, bits int) []api.Match {
	end := uint64(1) << bits
	var l []api.Match
	if kind != api.Exact {
		l = append(l, none())
	}
	for v := range end {
		switch kind {
		case api.Exact:
			l = append(l, one(v))
		case api.LPM:
			for n := 1; n <= bits; n++ {
				if v%(end>>n) == 0 {
					l = append(l, prefix(v, n))
				}
			}
		case api.Ternary:
			for mask := uint64(1); mask < end; mask++ {
				if v&^mask == 0 {
					l = append(l, ternary(v, mask))
				}
			}
		case api.Range:
			for high := v; high < end; high++ {
				if v > 0 || high < end-1 {
					l = append(l, between(v, high))
				}
			}
		}
	}
	return l
}

// entriesOf returns all canonical lists of matches for keys of these Kinds and bits.
func entriesOf(keys ...int) [][]api.Match {
	l := [][]api.Match{nil}
	for i := 0; i < len(keys); i += 2 {
		var longer [][]api.Match
		for _, e := range l {
			for _, m := range canonical(keys[i], keys[i+1]) {
				longer = append(longer, append(slices.Clone(e), m))
			}
		}
		l = longer
	}
	return l
}

// pointsOf returns all points for keys of these Kinds and few bits, and for each one the same with other values behind the last key.
func pointsOf(keys ...int) []api.Point {
	l := []api.Point{{}}
	for i := range api.MaxKeys {
		values := []uint64{0, 1}
		if 2*i < len(keys) {
			values = nil
			for v := range uint64(1) << keys[2*i+1] {
				values = append(values, v)
			}
		}
		var more []api.Point
		for _, p := range l {
			for _, v := range values {
				p[i] = of(v)
				more = append(more, p)
			}
		}
		l = more
	}
	return l
}

// needsPriority reports whether a table with these keys has entries with priorities.
func needsPriority(keys []int) bool {
	for i := 0; i < len(keys); i += 2 {
		if keys[i] == api.Ternary || keys[i] == api.Range {
			return true
		}
	}
	return false
}

// somePriority returns a priority that the entries of a table may have.
func somePriority(c *rand.Rand, keys []int) int {
	if needsPriority(keys) {
		return 1 + c.Intn(3)
	}
	return 0
}

func pick[T any](c *rand.Rand, l []T) T { return l[c.Intn(len(l))] }
