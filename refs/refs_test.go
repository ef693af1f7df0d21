package refs

import (
	"fmt"
	"math"
	"math/rand"
	"slices"
	"testing"

	"matchguard/api"
	"matchguard/check"
	"matchguard/entry"
	"matchguard/types"
)

var (
	high  = api.Value{Hi: 1}
	most  = api.Value{Hi: math.MaxUint64, Lo: math.MaxUint64}
	three = of(3)
)

func TestSamples(t *testing.T) {
	s := sample()
	if check.Check(s) != api.OK || types.All(s) != api.OK {
		t.Fatalf("the errors %d, %d", check.Check(s), types.All(s))
	}
	c := rand.New(rand.NewSource(1))
	l := []api.Entry{host(high, 3), port(2), route(1, most), with(route(1, most), 21, high, three), with(host(high, 3), 22, three, high)}
	for range 1000 {
		l = append(l, random(c))
	}
	for _, e := range l {
		if code := entry.Check(s, e); code != api.OK {
			t.Errorf("%+v has the error %d", e, code)
		}
	}
	lengths := map[int]int{}
	for range 50 {
		lengths[len(randomSchema(c).Refs)]++
	}
	if lengths[api.MaxRefs] < 25 {
		t.Errorf("the schemas have few references: %v", lengths)
	}
}

// P16.1 Needs: keys, and arguments of the action of the entry, in the order of the references
func TestNeeds(t *testing.T) {
	s := sample()
	for _, c := range []struct {
		e    api.Entry
		want []Target
	}{
		{port(2), nil},
		{with(port(2), 21, high, three), nil},
		{api.Entry{Table: 40, Matches: []api.Match{one(of(1)), {}, one(high)}, Priority: 1, Action: 21, Args: []api.Value{high, three}}, nil},
		{host(high, 3), []Target{small(5, 0, 3)}},
		{host(high, 0), []Target{small(5, 0, 0)}},
		{with(host(high, 3), 21, high, of(1)), []Target{small(5, 0, 3)}},
		{with(host(high, 3), 22, of(1), high), []Target{small(5, 0, 3), small(5, 0, 1)}},
		{with(host(high, 3), 22, three, high), []Target{small(5, 0, 3), small(5, 0, 3)}},
		{route(2, most), []Target{small(300, 1, 2), target(300, 0, most)}},
		{with(route(2, most), 21, high, three), []Target{small(300, 1, 2), target(300, 0, most), small(5, 0, 3), small(300, 1, 3), target(300, 0, high)}},
		{with(route(2, most), 21, most, of(2)), []Target{small(300, 1, 2), target(300, 0, most), small(5, 0, 2), small(300, 1, 2), target(300, 0, most)}},
		{with(route(2, most), 22, three, high), []Target{small(300, 1, 2), target(300, 0, most), target(300, 0, high)}},
	} {
		if got := Needs(s, c.e); !slices.Equal(got, c.want) {
			t.Errorf("Needs(%+v): %v, not %v", c.e, got, c.want)
		}
	}
	// The same reference twice, and others between.
	s.Refs = []api.Ref{s.Refs[4], s.Refs[6], s.Refs[4], s.Refs[6]}
	if code := check.Check(s); code != api.OK {
		t.Fatalf("the error %d", code)
	}
	if got := Needs(s, with(host(high, 3), 22, of(1), high)); !slices.Equal(got, []Target{small(5, 0, 3), small(5, 0, 1), small(5, 0, 3), small(5, 0, 1)}) {
		t.Errorf("%v", got)
	}
}

// P16.1 Provides: each pair of a table and a key once, in the order of the references
func TestProvides(t *testing.T) {
	s := sample()
	for _, c := range []struct {
		e    api.Entry
		want []Target
	}{
		{port(2), []Target{small(5, 0, 2)}},
		{port(0), []Target{small(5, 0, 0)}},
		{with(port(2), 22, three, high), []Target{small(5, 0, 2)}},
		{host(high, 3), []Target{small(300, 1, 3), target(300, 0, high)}},
		{host(three, 3), []Target{small(300, 1, 3), small(300, 0, 3)}},
		{with(host(most, 1), 22, three, high), []Target{small(300, 1, 1), target(300, 0, most)}},
		{route(2, most), nil},
		{with(route(2, most), 21, most, of(2)), nil},
		{api.Entry{Table: 40, Matches: []api.Match{one(of(1)), {}, one(high)}, Priority: 1, Action: 20}, nil},
	} {
		if got := Provides(s, c.e); !slices.Equal(got, c.want) {
			t.Errorf("Provides(%+v): %v, not %v", c.e, got, c.want)
		}
	}
	slices.Reverse(s.Refs)
	if got := Provides(s, host(high, 3)); !slices.Equal(got, []Target{target(300, 0, high), small(300, 1, 3)}) {
		t.Errorf("%v", got)
	}
	s.Refs = s.Refs[:1]
	if got := Provides(s, host(high, 3)); !slices.Equal(got, []Target{target(300, 0, high)}) {
		t.Errorf("%v", got)
	}
	if got := Provides(s, port(1)); len(got) != 0 {
		t.Errorf("%v", got)
	}
}

// P16.1: the document's example
func TestExample(t *testing.T) {
	s := sample()
	s.Tables = []api.Table{sampleTable(1, "one", "n"), sampleTable(2, "two", "w")}
	s.Tables[0].Keys[0].Field = 1
	s.Actions[1].Params[0].Bits = 16
	s.Refs = []api.Ref{{Table: 2, Action: 21, Param: 0, ToTable: 1, ToKey: 0}}
	if code := check.Check(s); code != api.OK {
		t.Fatalf("the error %d", code)
	}
	e := api.Entry{Table: 2, Matches: []api.Match{one(high)}, Action: 21, Args: []api.Value{of(5), of(1)}}
	if got := Needs(s, e); !slices.Equal(got, []Target{small(1, 0, 5)}) {
		t.Errorf("%v", got)
	}
	x := New(s)
	x.Add(e)
	if got := x.Dangling(); !slices.Equal(got, []Target{small(1, 0, 5)}) {
		t.Errorf("%v", got)
	}
	x.Add(api.Entry{Table: 1, Matches: []api.Match{one(of(5))}, Action: 20})
	if got := x.Dangling(); len(got) != 0 {
		t.Errorf("%v", got)
	}
}

// P16.1 New: no entries
func TestNew(t *testing.T) {
	for _, s := range []api.Schema{sample(), {}} {
		if x := New(s); x == nil || len(x.All()) != 0 || len(x.Dangling()) != 0 {
			t.Errorf("%v", x)
		}
	}
}

// P16.1 Add, Remove, All, Dangling: by hand
func TestCounts(t *testing.T) {
	x := New(sample())
	expect := func(want []Count, dangling ...Target) {
		t.Helper()
		if got := x.All(); !slices.Equal(got, want) {
			t.Fatalf("All: %v, not %v", got, want)
		}
		if got := x.Dangling(); !slices.Equal(got, dangling) {
			t.Fatalf("Dangling: %v, not %v", got, dangling)
		}
	}
	doubled := with(host(high, 3), 22, three, high)
	x.Add(doubled)
	expect([]Count{{small(5, 0, 3), 2, 0}, {target(300, 0, high), 0, 1}, {small(300, 1, 3), 0, 1}}, small(5, 0, 3))
	x.Add(port(3))
	expect([]Count{{small(5, 0, 3), 2, 1}, {target(300, 0, high), 0, 1}, {small(300, 1, 3), 0, 1}})
	x.Add(host(most, 3))
	expect([]Count{{small(5, 0, 3), 3, 1}, {target(300, 0, high), 0, 1}, {target(300, 0, most), 0, 1}, {small(300, 1, 3), 0, 2}})
	x.Add(route(2, high))
	expect([]Count{{small(5, 0, 3), 3, 1}, {target(300, 0, high), 1, 1}, {target(300, 0, most), 0, 1}, {small(300, 1, 2), 1, 0}, {small(300, 1, 3), 0, 2}}, small(300, 1, 2))
	x.Remove(port(3))
	expect([]Count{{small(5, 0, 3), 3, 0}, {target(300, 0, high), 1, 1}, {target(300, 0, most), 0, 1}, {small(300, 1, 2), 1, 0}, {small(300, 1, 3), 0, 2}}, small(5, 0, 3), small(300, 1, 2))
	x.Remove(doubled)
	expect([]Count{{small(5, 0, 3), 1, 0}, {target(300, 0, high), 1, 0}, {target(300, 0, most), 0, 1}, {small(300, 1, 2), 1, 0}, {small(300, 1, 3), 0, 1}}, small(5, 0, 3), target(300, 0, high), small(300, 1, 2))
	x.Remove(host(most, 3))
	expect([]Count{{target(300, 0, high), 1, 0}, {small(300, 1, 2), 1, 0}}, target(300, 0, high), small(300, 1, 2))
	x.Remove(route(2, high))
	expect(nil)
}

// P16.1 All, Dangling: ascending by Table, then Key, then Value, in whatever order the entries come
func TestOrder(t *testing.T) {
	for seed := range int64(20) {
		c := rand.New(rand.NewSource(seed))
		x, o := New(sample()), &oracle{schema: sample()}
		var l []api.Entry
		for i, v := range pool {
			l = append(l, route(i%4, v), with(host(v, i%4), 21, v, three))
		}
		c.Shuffle(len(l), func(i, k int) { l[i], l[k] = l[k], l[i] })
		for _, e := range l {
			x.Add(e)
			o.entries = append(o.entries, e)
			o.check(t, x)
		}
		for _, e := range l {
			if e.Table == 300 {
				x.Remove(e)
			}
		}
		o.entries = slices.DeleteFunc(o.entries, func(e api.Entry) bool { return e.Table == 300 })
		o.check(t, x)
		want := []Target{}
		for _, v := range pool {
			want = append(want, target(300, 0, v))
		}
		for n := range 4 {
			want = append(want, small(300, 1, n))
		}
		if got := x.Dangling(); !slices.Equal(got, want) {
			t.Fatalf("%v, not %v", got, want)
		}
	}
}

// P16.1, P16.2: random calls under random schemas, against the oracle
func TestRandomCalls(t *testing.T) {
	whole, broken := 0, 0
	for seed := range int64(100) {
		c := rand.New(rand.NewSource(seed))
		s := randomSchema(c)
		x, o := New(s), &oracle{schema: s}
		for range 150 {
			if at := c.Intn(12); at < len(o.entries) {
				x.Remove(o.entries[at])
				o.entries = slices.Delete(o.entries, at, at+1)
			} else {
				e := random(c)
				x.Add(e)
				o.entries = append(o.entries, e)
			}
			o.check(t, x)
			if o.isWhole() != (len(x.Dangling()) == 0) {
				t.Fatalf("Dangling: %v, the entries %+v", x.Dangling(), o.entries)
			}
			if len(x.Dangling()) == 0 {
				whole++
			} else {
				broken++
			}
		}
	}
	if whole < 500 || broken < 500 {
		t.Errorf("%d states without and %d with dangling targets", whole, broken)
	}
}

// P16.2: the counts depend only on the entries that are there, also behind many that have gone
func TestOnlyEntries(t *testing.T) {
	for seed := range int64(40) {
		c := rand.New(rand.NewSource(seed))
		s := randomSchema(c)
		var stay, leave []api.Entry
		for range 12 {
			stay, leave = append(stay, random(c)), append(leave, random(c))
		}
		x, y := New(s), New(s)
		for _, e := range stay {
			x.Add(e)
		}
		calls := append(slices.Clone(stay), leave...)
		for _, i := range c.Perm(len(calls)) {
			y.Add(calls[i])
		}
		for _, i := range c.Perm(len(leave)) {
			y.Remove(leave[i])
		}
		if !slices.Equal(x.All(), y.All()) || !slices.Equal(x.Dangling(), y.Dangling()) {
			t.Fatalf("%v, %v", x.All(), y.All())
		}
		(&oracle{schema: s, entries: stay}).check(t, y)
		for _, i := range c.Perm(len(stay)) {
			y.Remove(stay[i])
		}
		if len(y.All()) != 0 || len(y.Dangling()) != 0 || len(y.counts) != 0 {
			t.Fatalf("%v is left", y.counts)
		}
	}
}

// P16.1: what an entry needs and provides is what Needs and Provides say
func TestOneEntry(t *testing.T) {
	c := rand.New(rand.NewSource(7))
	for range 300 {
		s, e := randomSchema(c), random(c)
		x := New(s)
		x.Add(e)
		needed, provided := Needs(s, e), Provides(s, e)
		for _, n := range x.All() {
			isTarget := func(t Target) bool { return t == n.Target }
			before := len(needed) + len(provided)
			needed, provided = slices.DeleteFunc(needed, isTarget), slices.DeleteFunc(provided, isTarget)
			if before-len(needed)-len(provided) != n.Needed+n.Provided || n.Provided > 1 {
				t.Fatalf("%+v: %+v", e, n)
			}
		}
		if len(needed)+len(provided) != 0 {
			t.Fatalf("%+v: %v and %v are not counted", e, needed, provided)
		}
	}
}

// P16.1: only Value of a match counts, and the table and the action of an entry, not its priority
func TestOtherFields(t *testing.T) {
	s := sample()
	e := with(route(2, high), 22, three, most)
	other := with(route(2, high), 22, of(1), most)
	other.Priority = 9
	other.Matches[0] = api.Match{Present: true, Value: of(1 << 15), Prefix: 1}
	other.Matches[2] = api.Match{Present: true, Value: of(1), High: of(9)}
	x := New(s)
	x.Add(e)
	x.Remove(other)
	if len(x.All()) != 0 {
		t.Errorf("%v", x.All())
	}
}

// P16.1: Counts share no memory with arguments and results, nor results with each other (rule R3)
func TestSharing(t *testing.T) {
	s := sample()
	x, y, o := New(s), New(s), &oracle{schema: sample(), entries: []api.Entry{with(route(2, high), 21, most, three), host(high, 2), port(1)}}
	for i := range s.Refs {
		s.Refs[i] = api.Ref{Table: 5, ToTable: 40}
	}
	for _, e := range o.entries {
		e.Matches, e.Args = slices.Clone(e.Matches), slices.Clone(e.Args)
		x.Add(e)
		clear(e.Matches)
		clear(e.Args)
	}
	o.check(t, x)
	all, dangling := x.All(), x.Dangling()
	clear(x.All())
	clear(x.Dangling())
	o.check(t, x)
	if !slices.Equal(all, o.all()) || !slices.Equal(dangling, o.dangling()) {
		t.Error("a result is changed by a change of another one")
	}
	x.Remove(o.entries[1])
	if !slices.Equal(all, o.all()) || !slices.Equal(dangling, o.dangling()) {
		t.Error("a result is changed by a later call")
	}
	if len(y.All()) != 0 {
		t.Error("entries of Counts are in others")
	}
}

// P16.1: arguments are not changed (rule R3)
func TestArguments(t *testing.T) {
	s := sample()
	e := with(route(2, high), 21, most, three)
	given := with(route(2, high), 21, most, three)
	x := New(s)
	x.Add(given)
	x.Remove(given)
	Needs(s, given)
	Provides(s, given)
	Provides(s, host(high, 2))
	if !entry.Same(given, e) || fmt.Sprint(s) != fmt.Sprint(sample()) {
		t.Errorf("%+v, %+v", given, s)
	}
}

// P16.1: on a nil *Counts, results are zero, and nothing happens; the zero Counts count nothing either, lest they panic (rule R1)
func TestNil(t *testing.T) {
	var zero Counts
	for _, x := range []*Counts{nil, &zero} {
		for _, e := range []api.Entry{port(1), host(high, 2), with(route(2, high), 21, most, three), {}} {
			x.Add(e)
			x.Remove(e)
			x.Remove(e)
			x.Add(e)
			x.Add(e)
			if len(x.All()) != 0 || len(x.Dangling()) != 0 {
				t.Errorf("%v", x.All())
			}
		}
	}
}

// Entries and schemas for which nothing is promised lead to no panic (rule R1).
func TestAnything(t *testing.T) {
	far := []int{math.MinInt, -1, 0, 1, 5, math.MaxInt}
	wild := api.Schema{}
	for _, i := range far {
		for _, k := range far {
			wild.Refs = append(wild.Refs, api.Ref{Table: 300, Key: i, ToTable: 300, ToKey: k}, api.Ref{Table: 300, Action: 20, Param: i, ToTable: 5, ToKey: k}, api.Ref{Table: i, ToTable: k})
		}
	}
	for _, s := range []api.Schema{{}, sample(), wild} {
		x := New(s)
		for _, table := range append(far, tables...) {
			for length := range 6 {
				for _, action := range []int{-1, 0, 20, 21, 22} {
					e := api.Entry{Table: table, Matches: make([]api.Match, length), Priority: -1, Action: action, Args: make([]api.Value, 5-length)}
					x.Remove(e)
					x.Add(e)
					x.Add(e)
					x.Remove(e)
					x.Remove(e)
					Needs(s, e)
					Provides(s, e)
					x.All()
					x.Dangling()
				}
			}
		}
	}
}
