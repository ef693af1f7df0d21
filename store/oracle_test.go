package store

import (
	"math/rand"
	"slices"
	"strings"
	"testing"

	"matchguard/api"
)

// The oracle of these tests is one list of the entries of all tables, in the order of the calls.

// layout is a table of the tests, with the Kinds and bits of its keys.
type layout struct {
	id, size int
	keys     []int
}

// layouts are tables with IDs in no order; their values have few bits, so that all points can be tried.
var layouts = []layout{
	{12, 4, []int{api.Ternary, 2, api.Range, 2}},
	{10, 3, []int{api.Exact, 2}},
	{65534, 1, []int{api.Exact, 1, api.Exact, 1}},
	{11, 8, []int{api.LPM, 2, api.Exact, 1}},
	{1, 64, []int{api.Range, 2, api.LPM, 2}},
}

// schemaOf is a schema with these tables.
func schemaOf(l []layout) api.Schema {
	s := api.Schema{
		Fields: []api.Field{{ID: 1, Name: "in", Bits: 16}, {ID: 2, Name: "out", Bits: 16}},
		Actions: []api.Action{
			{ID: 20, Name: "plain"},
			{ID: 21, Name: "to", Params: []api.Param{{Name: "p", Bits: 16}, {Name: "q", Bits: 16}}},
		},
		MaxBatch: 1, Budget: 1,
	}
	for n, t := range l {
		table := api.Table{ID: t.id, Name: "t" + string(rune('a'+n)), Actions: []int{20, 21}, Default: 20, Size: t.size}
		for i := 0; i < len(t.keys); i += 2 {
			id := 100 + 10*n + i
			name := "f" + string(rune('a'+n)) + string(rune('a'+i))
			s.Fields = append(s.Fields, api.Field{ID: id, Name: name, Bits: t.keys[i+1]})
			table.Keys = append(table.Keys, api.Key{Name: name, Field: id, Kind: t.keys[i]})
		}
		s.Tables = append(s.Tables, table)
	}
	return s
}

// layoutOf returns the index of the table with an ID; -1 if there is none.
func layoutOf(id int) int {
	return slices.IndexFunc(layouts, func(t layout) bool { return t.id == id })
}

// oracle is a store of the oracle.
type oracle struct {
	entries []api.Installed
	next    int
}

// keyOf returns a text for the key of an entry; the order of these texts is that of All. Its numbers have one byte, but for the priority (fmt would take most of the time of the tests).
func keyOf(e api.Entry) string {
	rank := 65535 - e.Priority
	key := []byte{byte(layoutOf(e.Table)), byte(rank >> 8), byte(rank)}
	for _, m := range e.Matches {
		present := byte(0)
		if m.Present {
			present = 1
		}
		key = append(key, present, byte(m.Value.Lo), byte(m.Mask.Lo), byte(m.Prefix), byte(m.High.Lo))
	}
	return string(key)
}

func (o *oracle) at(e api.Entry) int {
	return slices.IndexFunc(o.entries, func(i api.Installed) bool { return keyOf(i.Entry) == keyOf(e) })
}

func (o *oracle) insert(e api.Entry, owner int) (int, api.Errno) {
	t := layoutOf(e.Table)
	switch {
	case t < 0:
		return 0, api.ErrUnknown
	case o.at(e) >= 0:
		return 0, api.ErrExists
	case len(o.table(e.Table)) >= layouts[t].size:
		return 0, api.ErrFull
	}
	o.entries = append(o.entries, api.Installed{Entry: e, Number: o.next, Owner: owner})
	o.next++
	return o.next - 1, api.OK
}

// find returns the entry with the key of e, and the error of Modify.
func (o *oracle) find(e api.Entry) (api.Installed, api.Errno) {
	if layoutOf(e.Table) < 0 {
		return api.Installed{}, api.ErrUnknown
	}
	if at := o.at(e); at >= 0 {
		return o.entries[at], api.OK
	}
	return api.Installed{}, api.ErrMissing
}

func (o *oracle) modify(e api.Entry) (api.Installed, api.Errno) {
	old, code := o.find(e)
	if code == api.OK {
		at := o.at(e)
		o.entries[at].Entry.Action, o.entries[at].Entry.Args = e.Action, e.Args
	}
	return old, code
}

func (o *oracle) delete(e api.Entry) (api.Installed, api.Errno) {
	old, code := o.find(e)
	if code == api.OK {
		at := o.at(e)
		o.entries = slices.Delete(o.entries, at, at+1)
	}
	return old, code
}

func (o *oracle) restore(i api.Installed) bool {
	if layoutOf(i.Entry.Table) < 0 || o.at(i.Entry) >= 0 || o.hasNumber(i.Entry.Table, i.Number) {
		return false
	}
	o.entries = append(o.entries, i)
	return true
}

func (o *oracle) hasNumber(table, number int) bool {
	return slices.ContainsFunc(o.entries, func(i api.Installed) bool { return i.Entry.Table == table && i.Number == number })
}

func (o *oracle) all() []api.Installed {
	return slices.SortedFunc(slices.Values(o.entries), func(a, b api.Installed) int { return strings.Compare(keyOf(a.Entry), keyOf(b.Entry)) })
}

func (o *oracle) table(id int) []api.Installed {
	return slices.DeleteFunc(o.all(), func(i api.Installed) bool { return i.Entry.Table != id })
}

// covers reports whether a match covers a value.
func covers(m api.Match, kind, bits int, v uint64) bool {
	if !m.Present {
		return true
	}
	switch kind {
	case api.Exact:
		return v == m.Value.Lo
	case api.LPM:
		return v>>(bits-m.Prefix) == m.Value.Lo>>(bits-m.Prefix)
	case api.Ternary:
		return v&m.Mask.Lo == m.Value.Lo
	}
	return m.Value.Lo <= v && v <= m.High.Lo
}

// lookup returns the entry of a table that wins at a point.
func (o *oracle) lookup(table int, p api.Point) (api.Installed, bool) {
	var best api.Installed
	var bestRank []int
	for _, i := range o.table(table) {
		rank, keys := []int{i.Entry.Priority, 0, i.Number}, layouts[layoutOf(table)].keys
		matches := true
		for k, m := range i.Entry.Matches {
			matches = matches && covers(m, keys[2*k], keys[2*k+1], p[k].Lo)
			rank[1] += m.Prefix
		}
		if matches && slices.Compare(rank, bestRank) > 0 {
			best, bestRank = i, rank
		}
	}
	return best, bestRank != nil
}

// same reports whether two installed entries are equal.
func same(a, b api.Installed) bool {
	return a.Number == b.Number && a.Owner == b.Owner && a.Entry.Table == b.Entry.Table && a.Entry.Priority == b.Entry.Priority && a.Entry.Action == b.Entry.Action && slices.Equal(a.Entry.Matches, b.Entry.Matches) && slices.Equal(a.Entry.Args, b.Entry.Args)
}

// check compares what a Store has with what the oracle has.
func (o *oracle) check(t *testing.T, x *Store) {
	t.Helper()
	if got, want := x.All(), o.all(); !slices.EqualFunc(got, want, same) {
		t.Fatalf("All: %+v, not %+v", got, want)
	}
	if x.Next() != o.next {
		t.Fatalf("Next: %d, not %d", x.Next(), o.next)
	}
	for _, l := range layouts {
		got, want := x.Table(l.id), o.table(l.id)
		if !slices.EqualFunc(got, want, same) || x.Len(l.id) != len(want) {
			t.Fatalf("Table(%d): %+v, not %+v; Len: %d", l.id, got, want, x.Len(l.id))
		}
	}
}

// checkFind compares the results of Find for entries.
func (o *oracle) checkFind(t *testing.T, x *Store, l ...api.Entry) {
	t.Helper()
	for _, e := range l {
		want, code := o.find(e)
		if got, ok := x.Find(e); ok != (code == api.OK) || !same(got, want) {
			t.Fatalf("Find(%+v): %+v, %t, not %+v", e, got, ok, want)
		}
	}
}

// checkPoints compares the results of lookups at all points of all tables.
func (o *oracle) checkPoints(t *testing.T, x *Store) {
	t.Helper()
	for _, l := range layouts {
		for a := range uint64(4) {
			for b := range uint64(4) {
				p := api.Point{of(a % (1 << l.keys[1]))}
				if len(l.keys) > 2 {
					p[1] = of(b % (1 << l.keys[3]))
				}
				want, there := o.lookup(l.id, p)
				if got, ok := x.Lookup(l.id, p); ok != there || !same(got, want) {
					t.Fatalf("Lookup(%d, %v): %+v, %t, not %+v", l.id, p, got, ok, want)
				}
			}
		}
	}
}

// pair makes an empty Store and its oracle.
func pair() (*Store, *oracle) {
	return New(schemaOf(layouts)), &oracle{next: 1}
}

func of(n uint64) api.Value { return api.Value{Lo: n} }

// one, prefix, ternary and between are matches, none is one that matches everything.
func one(n uint64) api.Match { return api.Match{Present: true, Value: of(n)} }
func prefix(n uint64, length int) api.Match {
	return api.Match{Present: true, Value: of(n), Prefix: length}
}
func ternary(n, mask uint64) api.Match {
	return api.Match{Present: true, Value: of(n), Mask: of(mask)}
}
func between(low, high uint64) api.Match {
	return api.Match{Present: true, Value: of(low), High: of(high)}
}
func none() api.Match { return api.Match{} }

// with returns an entry with a number as its argument, or without one if it is 0.
func with(e api.Entry, n uint64) api.Entry {
	e.Action, e.Args = 20, nil
	if n > 0 {
		e.Action, e.Args = 21, []api.Value{of(n), of(n + 1)}
	}
	return e
}

// host, pair and route are entries of tables without priorities, acl and wide of tables with them.
func host(a uint64) api.Entry {
	return with(api.Entry{Table: 10, Matches: []api.Match{one(a)}}, a)
}
func single(a, b uint64) api.Entry {
	return with(api.Entry{Table: 65534, Matches: []api.Match{one(a), one(b)}}, a)
}
func route(d api.Match, m uint64) api.Entry {
	return with(api.Entry{Table: 11, Matches: []api.Match{d, one(m)}}, m)
}
func acl(priority int, a, b api.Match) api.Entry {
	return with(api.Entry{Table: 12, Matches: []api.Match{a, b}, Priority: priority}, uint64(priority))
}
func wide(priority int, a, b api.Match) api.Entry {
	return with(api.Entry{Table: 1, Matches: []api.Match{a, b}, Priority: priority}, uint64(priority))
}

// unknown is an entry of a table that does not exist.
func unknown() api.Entry { return api.Entry{Table: 13, Matches: []api.Match{one(1)}, Action: 20} }

// some returns one entry of each table.
func some() []api.Entry {
	return []api.Entry{acl(7, ternary(2, 2), none()), host(3), single(1, 1), route(prefix(2, 1), 1), wide(3, between(1, 2), prefix(3, 2))}
}

func pick[T any](c *rand.Rand, l []T) T { return l[c.Intn(len(l))] }

// random returns an entry of some table.
func random(c *rand.Rand) api.Entry {
	any := []api.Match{none(), between(1, 2), between(0, 1), between(3, 3)}
	prefixes := []api.Match{none(), prefix(0, 1), prefix(2, 1), prefix(2, 2), prefix(1, 2)}
	var e api.Entry
	switch c.Intn(5) {
	case 0:
		e = acl(1+c.Intn(2), pick(c, []api.Match{none(), ternary(0, 1), ternary(1, 1), ternary(2, 2)}), pick(c, any))
	case 1:
		e = host(uint64(c.Intn(4)))
	case 2:
		e = single(uint64(c.Intn(2)), uint64(c.Intn(2)))
	case 3:
		e = route(pick(c, prefixes), uint64(c.Intn(2)))
	default:
		e = wide(1+c.Intn(2), pick(c, any), pick(c, prefixes))
	}
	return with(e, uint64(c.Intn(5)))
}
