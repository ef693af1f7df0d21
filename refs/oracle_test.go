package refs

import (
	"math"
	"math/rand"
	"slices"
	"testing"

	"matchguard/api"
	"matchguard/check"
)

// The oracle of these tests is a list of the entries that are there. It goes through all targets that there may be, in their order, and looks for each of them in all entries.

// pool has the values of the tests, in ascending order; the first four have two bits.
var pool = []api.Value{
	{}, {Lo: 1}, {Lo: 2}, {Lo: 3}, {Lo: 1 << 63}, {Lo: math.MaxUint64}, {Hi: 1}, {Hi: 1, Lo: 2}, {Hi: 2, Lo: 1}, {Hi: 1 << 63}, {Hi: math.MaxUint64, Lo: 1}, {Hi: math.MaxUint64, Lo: math.MaxUint64},
}

// tables has the IDs of the tables in ascending order.
var tables = []int{5, 40, 300, 65534}

// sample is a schema whose tables have keys of all Kinds, and IDs in no order. The table 65534 refers to 300 and 5, and 300 to 5.
func sample() api.Schema {
	return api.Schema{
		Fields: []api.Field{{ID: 1, Name: "in", Bits: 16}, {ID: 2, Name: "out", Bits: 16}, {ID: 3, Name: "wide", Bits: 128}, {ID: 4, Name: "small", Bits: 2}},
		Actions: []api.Action{
			{ID: 20, Name: "plain"},
			{ID: 21, Name: "to", Params: []api.Param{{Name: "w", Bits: 128}, {Name: "n", Bits: 2}}},
			{ID: 22, Name: "ot", Params: []api.Param{{Name: "n", Bits: 2}, {Name: "w", Bits: 128}}},
		},
		Tables: []api.Table{
			sampleTable(300, "host", "w", "n", "l"), sampleTable(5, "port", "n"), sampleTable(65534, "route", "l", "n", "r", "w"), sampleTable(40, "mark", "n", "t", "w"),
		},
		Refs: []api.Ref{
			{Table: 65534, Key: 1, ToTable: 300, ToKey: 1},
			{Table: 65534, Key: 3, ToTable: 300, ToKey: 0},
			{Table: 65534, Action: 21, Param: 1, ToTable: 5, ToKey: 0},
			{Table: 65534, Action: 21, Param: 1, ToTable: 300, ToKey: 1},
			{Table: 300, Key: 1, ToTable: 5, ToKey: 0},
			{Table: 65534, Action: 21, Param: 0, ToTable: 300, ToKey: 0},
			{Table: 300, Action: 22, Param: 0, ToTable: 5, ToKey: 0},
			{Table: 65534, Action: 22, Param: 1, ToTable: 300, ToKey: 0},
		},
		MaxBatch: 1, Budget: 1,
	}
}

// sampleTable returns a table; the names of its keys are short for their Kinds and fields.
func sampleTable(id int, name string, keys ...string) api.Table {
	kinds := map[string]api.Key{"w": {Field: 3, Kind: api.Exact}, "n": {Field: 4, Kind: api.Exact}, "l": {Field: 1, Kind: api.LPM}, "r": {Field: 2, Kind: api.Range}, "t": {Field: 1, Kind: api.Ternary}}
	t := api.Table{ID: id, Name: name, Actions: []int{20, 21, 22}, Default: 20, Size: 64}
	for _, k := range keys {
		key := kinds[k]
		key.Name = k
		t.Keys = append(t.Keys, key)
	}
	return t
}

// randomSchema is the sample with other references.
func randomSchema(c *rand.Rand) api.Schema {
	s := sample()
	s.Refs = nil
	for range 400 {
		r := api.Ref{Table: pick(c, tables), Action: pick(c, []int{0, 0, 20, 21, 22}), ToTable: pick(c, tables), ToKey: c.Intn(4)}
		if r.Action == 0 {
			r.Key = c.Intn(4)
		} else {
			r.Param = c.Intn(2)
		}
		longer := s
		longer.Refs = append(slices.Clone(s.Refs), r)
		if check.Check(longer) == api.OK {
			s = longer
		}
	}
	return s
}

// random returns an entry of some table.
func random(c *rand.Rand) api.Entry {
	e := api.Entry{Table: pick(c, tables)}
	w, n := one(pick(c, pool)), one(of(c.Intn(4)))
	switch e.Table {
	case 300:
		e.Matches = []api.Match{w, n, pick(c, []api.Match{{}, {Present: true, Value: of(1 << 15), Prefix: 1}})}
	case 5:
		e.Matches = []api.Match{n}
	case 65534:
		e.Matches = []api.Match{{}, n, pick(c, []api.Match{{}, {Present: true, Value: of(1), High: of(3)}}), w}
		e.Priority = 1 + c.Intn(3)
	default:
		e.Matches = []api.Match{n, pick(c, []api.Match{{}, {Present: true, Value: of(2), Mask: of(6)}}), w}
		e.Priority = 1 + c.Intn(3)
	}
	return act(c, e)
}

// act gives an entry an action and arguments.
func act(c *rand.Rand, e api.Entry) api.Entry {
	e.Action, e.Args = 20, nil
	w, n := pick(c, pool), of(c.Intn(4))
	switch c.Intn(3) {
	case 0:
		e.Action, e.Args = 21, []api.Value{w, n}
	case 1:
		e.Action, e.Args = 22, []api.Value{n, w}
	}
	return e
}

// oracle has the entries that are there.
type oracle struct {
	schema  api.Schema
	entries []api.Entry
}

// needed returns how often entries need a target.
func (o *oracle) needed(t Target) int {
	count := 0
	for _, e := range o.entries {
		for _, r := range o.schema.Refs {
			leads := r.Table == e.Table && r.ToTable == t.Table && r.ToKey == t.Key
			if leads && (r.Action == 0 && e.Matches[r.Key].Value == t.Value || r.Action == e.Action && e.Args[r.Param] == t.Value) {
				count++
			}
		}
	}
	return count
}

// provided returns how often entries provide a target.
func (o *oracle) provided(t Target) int {
	if !slices.ContainsFunc(o.schema.Refs, func(r api.Ref) bool { return r.ToTable == t.Table && r.ToKey == t.Key }) {
		return 0
	}
	return o.having(t)
}

// having returns how many entries of a table have that value of the key.
func (o *oracle) having(t Target) int {
	count := 0
	for _, e := range o.entries {
		if e.Table == t.Table && e.Matches[t.Key].Value == t.Value {
			count++
		}
	}
	return count
}

func (o *oracle) all() []Count {
	var l []Count
	for _, table := range tables {
		for key := range o.schema.Tables[check.TableOf(o.schema, table)].Keys {
			for _, v := range pool {
				t := Target{Table: table, Key: key, Value: v}
				if n := (Count{Target: t, Needed: o.needed(t), Provided: o.provided(t)}); n.Needed+n.Provided > 0 {
					l = append(l, n)
				}
			}
		}
	}
	return l
}

func (o *oracle) dangling() []Target {
	var l []Target
	for _, n := range o.all() {
		if n.Needed > 0 && n.Provided == 0 {
			l = append(l, n.Target)
		}
	}
	return l
}

// isWhole reports whether every value that an entry needs is a key value of an entry of the table that is referred to.
func (o *oracle) isWhole() bool {
	for _, e := range o.entries {
		for _, r := range o.schema.Refs {
			t := Target{Table: r.ToTable, Key: r.ToKey}
			switch {
			case r.Table != e.Table || r.Action != 0 && r.Action != e.Action:
				continue
			case r.Action == 0:
				t.Value = e.Matches[r.Key].Value
			default:
				t.Value = e.Args[r.Param]
			}
			if o.having(t) == 0 {
				return false
			}
		}
	}
	return true
}

// check compares what Counts have with what the oracle has.
func (o *oracle) check(t *testing.T, c *Counts) {
	t.Helper()
	if got, want := c.All(), o.all(); !slices.Equal(got, want) {
		t.Fatalf("All: %v, not %v", got, want)
	}
	if got, want := c.Dangling(), o.dangling(); !slices.Equal(got, want) {
		t.Fatalf("Dangling: %v, not %v", got, want)
	}
}

func of(n int) api.Value { return api.Value{Lo: uint64(n)} }

// one is an exact match.
func one(v api.Value) api.Match { return api.Match{Present: true, Value: v} }

func pick[T any](c *rand.Rand, l []T) T { return l[c.Intn(len(l))] }

// host, port and route are entries with the action 20.
func host(w api.Value, n int) api.Entry {
	return api.Entry{Table: 300, Matches: []api.Match{one(w), one(of(n)), {}}, Action: 20}
}
func port(n int) api.Entry {
	return api.Entry{Table: 5, Matches: []api.Match{one(of(n))}, Action: 20}
}
func route(n int, w api.Value) api.Entry {
	return api.Entry{Table: 65534, Matches: []api.Match{{}, one(of(n)), {}, one(w)}, Priority: 1, Action: 20}
}

// with returns an entry with another action and other arguments.
func with(e api.Entry, action int, args ...api.Value) api.Entry {
	e.Action, e.Args = action, args
	return e
}

// target and small are targets.
func target(table, key int, v api.Value) Target { return Target{Table: table, Key: key, Value: v} }
func small(table, key, n int) Target            { return target(table, key, of(n)) }
