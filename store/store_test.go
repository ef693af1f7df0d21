package store

import (
	"fmt"
	"math"
	"math/rand"
	"slices"
	"testing"

	"matchguard/api"
	"matchguard/check"
	"matchguard/entry"
	"matchguard/types"
)

func TestSamples(t *testing.T) {
	s := schemaOf(layouts)
	if check.Check(s) != api.OK || types.All(s) != api.OK {
		t.Fatalf("the errors %d, %d", check.Check(s), types.All(s))
	}
	c := rand.New(rand.NewSource(1))
	tables := map[int]int{}
	for range 1000 {
		e := random(c)
		if code := entry.Check(s, e); code != api.OK {
			t.Errorf("%+v has the error %d", e, code)
		}
		tables[e.Table]++
	}
	for _, e := range some() {
		if code := entry.Check(s, e); code != api.OK {
			t.Errorf("%+v has the error %d", e, code)
		}
	}
	if len(tables) != len(layouts) {
		t.Errorf("%v", tables)
	}
}

// P15.1 New: no entries, and the next number 1
func TestNew(t *testing.T) {
	x, o := pair()
	o.check(t, x)
	o.checkPoints(t, x)
	o.checkFind(t, x, some()...)
	for _, e := range append(some(), unknown()) {
		want := api.ErrMissing
		if e.Table == 13 {
			want = api.ErrUnknown
		}
		if old, code := x.Modify(e); code != want || !same(old, api.Installed{}) {
			t.Errorf("Modify: %+v, %d", old, code)
		}
		if old, code := x.Delete(e); code != want || !same(old, api.Installed{}) {
			t.Errorf("Delete: %+v, %d", old, code)
		}
	}
	o.check(t, x)
}

// P15.1 Insert: each entry has the next number and its owner, in all tables together
func TestInsert(t *testing.T) {
	x, o := pair()
	for n, e := range some() {
		for _, owner := range []int{30 + n, 5} {
			want, code := o.insert(e, owner)
			if got, err := x.Insert(e, owner); got != want || err != code {
				t.Fatalf("Insert(%+v): %d, %d, not %d, %d", e, got, err, want, code)
			}
			o.check(t, x)
			o.checkPoints(t, x)
		}
		if i, ok := x.Find(e); !ok || i.Number != n+1 || i.Owner != 30+n || !entry.Same(i.Entry, e) {
			t.Errorf("Find: %+v", i)
		}
	}
	for n, owner := range []int{0, -1, math.MaxInt, math.MinInt} {
		if _, code := x.Insert(wide(9, between(0, uint64(n%3)), none()), owner); n < 3 && code != api.OK {
			t.Fatalf("the owner %d: %d", owner, code)
		}
	}
	if l := x.Table(1); len(l) != 4 || l[0].Owner != 0 || l[1].Owner != -1 || l[2].Owner != math.MaxInt {
		t.Errorf("%+v", l)
	}
}

// P15.1 Insert: the first error that applies; a table is full at its Size, whatever is in others
func TestInsertErrors(t *testing.T) {
	x, o := pair()
	for n := range uint64(3) {
		x.Insert(host(n), 30)
		o.insert(host(n), 30)
	}
	x.Insert(single(0, 1), 31)
	o.insert(single(0, 1), 31)
	for _, c := range []struct {
		e    api.Entry
		want api.Errno
	}{
		{host(0), api.ErrExists}, {host(2), api.ErrExists}, {with(host(1), 4), api.ErrExists}, {host(3), api.ErrFull},
		{single(0, 1), api.ErrExists}, {single(1, 0), api.ErrFull}, {unknown(), api.ErrUnknown},
	} {
		for _, owner := range []int{30, 31, 32} {
			if n, code := x.Insert(c.e, owner); n != 0 || code != c.want {
				t.Errorf("Insert(%+v): %d, %d, not %d", c.e, n, code, c.want)
			}
			o.check(t, x)
		}
	}
	// Room in a table that was full.
	x.Delete(host(1))
	o.delete(host(1))
	for _, e := range []api.Entry{host(3), host(1), route(none(), 0)} {
		want, code := o.insert(e, 33)
		if n, err := x.Insert(e, 33); n != want || err != code {
			t.Errorf("Insert(%+v): %d, %d, not %d, %d", e, n, err, want, code)
		}
		o.check(t, x)
	}
}

// P15.1 Insert: the greatest Size
func TestSize(t *testing.T) {
	l := []layout{{7, api.MaxSize, []int{api.Exact, 16}}, {6, api.MaxSize, []int{api.LPM, 16}}}
	x := New(schemaOf(l))
	for n := range uint64(2 * api.MaxSize) {
		number, code := x.Insert(with(api.Entry{Table: 7, Matches: []api.Match{one(n)}}, n), 30)
		want, full := int(n)+1, api.OK
		if n >= api.MaxSize {
			want, full = 0, api.ErrFull
		}
		if number != want || code != full {
			t.Fatalf("entry %d: %d, %d", n, number, code)
		}
	}
	if x.Len(7) != api.MaxSize || x.Next() != api.MaxSize+1 || x.Len(6) != 0 {
		t.Errorf("%d entries, next %d", x.Len(7), x.Next())
	}
	if n, code := x.Insert(api.Entry{Table: 6, Matches: []api.Match{none()}, Action: 20}, 30); n != api.MaxSize+1 || code != api.OK {
		t.Errorf("%d, %d", n, code)
	}
}

// P15.1 Modify: Action and Args are replaced, Number and Owner stay; errors
func TestModify(t *testing.T) {
	x, o := pair()
	for n, e := range some() {
		x.Insert(e, 30+n)
		o.insert(e, 30+n)
	}
	for n, e := range append(some(), unknown(), host(1), acl(8, ternary(2, 2), none()), acl(7, ternary(2, 2), between(1, 1))) {
		for _, changed := range []api.Entry{with(e, 0), with(e, uint64(50+n)), e} {
			want, code := o.modify(changed)
			if got, err := x.Modify(changed); err != code || !same(got, want) {
				t.Fatalf("Modify(%+v): %+v, %d, not %+v, %d", changed, got, err, want, code)
			}
			o.check(t, x)
			o.checkFind(t, x, e, changed)
			o.checkPoints(t, x)
		}
	}
	// A table that is full has no room, but its entries may change.
	x.Insert(single(1, 0), 40)
	if old, code := x.Modify(with(single(1, 1), 9)); code != api.OK || old.Number != 3 || old.Owner != 32 {
		t.Errorf("%+v, %d", old, code)
	}
}

// P15.1 Delete: only the key counts; errors
func TestDelete(t *testing.T) {
	x, o := pair()
	for n, e := range some() {
		x.Insert(e, 30+n)
		o.insert(e, 30+n)
	}
	for n, e := range append(some(), unknown(), host(1), acl(8, ternary(2, 2), none())) {
		e = with(e, uint64(n+60))
		for range 2 {
			want, code := o.delete(e)
			if got, err := x.Delete(e); err != code || !same(got, want) {
				t.Fatalf("Delete(%+v): %+v, %d, not %+v, %d", e, got, err, want, code)
			}
			o.check(t, x)
			o.checkFind(t, x, e)
			o.checkPoints(t, x)
		}
	}
	if x.Next() != 6 || len(x.All()) != 0 {
		t.Errorf("next %d, %d entries", x.Next(), len(x.All()))
	}
}

// P15.1: the document's example
func TestExample(t *testing.T) {
	x, _ := pair()
	if n, code := x.Insert(host(1), 30); n != 1 || code != api.OK {
		t.Errorf("%d, %d", n, code)
	}
	x.Delete(host(1))
	if n, code := x.Insert(host(1), 30); n != 2 || code != api.OK {
		t.Errorf("%d, %d", n, code)
	}
}

// P15.1 Restore: its own number and owner; the same key or the same number in the table; Size and next number do not count
func TestRestore(t *testing.T) {
	x, o := pair()
	restore := func(e api.Entry, number, owner int, want bool) {
		t.Helper()
		i := api.Installed{Entry: e, Number: number, Owner: owner}
		if got := x.Restore(i); got != want || o.restore(i) != want {
			t.Fatalf("Restore(%+v): %t", i, got)
		}
		o.check(t, x)
		o.checkFind(t, x, e)
		o.checkPoints(t, x)
	}
	// The table has the Size 3.
	for n, number := range []int{10, 1, -3, 0} {
		restore(host(uint64(n)), number, 30+n, true)
		restore(host(uint64(n)), number, 30+n, false)
		restore(with(host(uint64(n)), 7), 99, 40, false)
	}
	x.Delete(host(3))
	o.delete(host(3))
	for _, number := range []int{10, 1, -3} {
		restore(host(3), number, 30, false)
		// The same number in another table.
		restore(acl(1+number&7, none(), none()), number, 31, true)
	}
	restore(unknown(), 50, 30, false)
	for n, number := range []int{math.MaxInt, math.MinInt, 1 << 32, 1<<32 + 10} {
		restore(wide(1+n, none(), none()), number, n, true)
	}
	if n, code := x.Insert(host(3), 30); n != 0 || code != api.ErrFull {
		t.Errorf("a full table: %d, %d", n, code)
	}
	restore(host(3), 2, -9, true)
	if n, code := x.Insert(host(3), 30); n != 0 || code != api.ErrExists {
		t.Errorf("a table that is more than full: %d, %d", n, code)
	}
	// There are entries with the number 1 in two other tables.
	if n, code := x.Insert(route(none(), 1), 30); n != 1 || code != api.OK || x.Next() != 2 {
		t.Errorf("Insert: %d, %d", n, code)
	}
}

// P15.1 Insert: more entries than Size, of which some are deleted
func TestMoreThanFull(t *testing.T) {
	x, o := pair()
	for n := range uint64(4) {
		i := api.Installed{Entry: single(n/2, n%2), Number: 20 + int(n)}
		x.Restore(i)
		o.restore(i)
	}
	for n := range uint64(4) {
		e := single(n/2, n%2)
		x.Delete(e)
		o.delete(e)
		want, code := o.insert(e, 30)
		if got, err := x.Insert(e, 30); got != want || err != code {
			t.Errorf("behind %d deletions: %d, %d, not %d, %d", n+1, got, err, want, code)
		}
		o.check(t, x)
	}
}

// P15.1 Renumber, Next: numbers below 1 count as 1
func TestRenumber(t *testing.T) {
	x, o := pair()
	x.Insert(host(1), 30)
	o.insert(host(1), 30)
	for _, n := range []int{5, 1, 2, 0, -1, 7, math.MinInt, 1 << 40, math.MaxInt - 1, 100} {
		x.Renumber(n)
		o.next = max(n, 1)
		o.check(t, x)
		o.checkPoints(t, x)
	}
	for n, e := range []api.Entry{host(2), acl(3, none(), none())} {
		if got, code := x.Insert(e, 30); got != 100+n || code != api.OK || x.Next() != 101+n {
			t.Errorf("Insert: %d, %d, next %d", got, code, x.Next())
		}
	}
	x.Renumber(math.MaxInt)
	if got, code := x.Insert(wide(1, none(), none()), 30); got != math.MaxInt || code != api.OK {
		t.Errorf("the greatest number: %d, %d", got, code)
	}
}

// P15.1 Lookup, Table, Len: tables that do not exist
func TestUnknownTables(t *testing.T) {
	x, _ := pair()
	for _, e := range some() {
		x.Insert(e, 30)
	}
	for _, id := range []int{0, 2, 13, -1, 65535, 10 + 1<<32, math.MaxInt, math.MinInt} {
		if i, ok := x.Lookup(id, api.Point{}); ok || !same(i, api.Installed{}) {
			t.Errorf("Lookup(%d): %+v", id, i)
		}
		if x.Len(id) != 0 || len(x.Table(id)) != 0 {
			t.Errorf("the table %d has entries", id)
		}
		for _, e := range []api.Entry{{Table: id}, {Table: id, Matches: []api.Match{one(1)}, Action: 20}, {Table: id, Matches: []api.Match{between(5, 1)}, Priority: -1, Args: []api.Value{of(1)}}} {
			if n, code := x.Insert(e, 30); n != 0 || code != api.ErrUnknown {
				t.Errorf("Insert(%+v): %d, %d", e, n, code)
			}
			if i, code := x.Modify(e); code != api.ErrUnknown || !same(i, api.Installed{}) {
				t.Errorf("Modify(%+v): %+v, %d", e, i, code)
			}
			if i, code := x.Delete(e); code != api.ErrUnknown || !same(i, api.Installed{}) {
				t.Errorf("Delete(%+v): %+v, %d", e, i, code)
			}
			if i, ok := x.Find(e); ok || !same(i, api.Installed{}) {
				t.Errorf("Find(%+v): %+v", e, i)
			}
			if x.Restore(api.Installed{Entry: e, Number: 50}) {
				t.Errorf("Restore(%+v)", e)
			}
		}
	}
	if x.Next() != 6 || len(x.All()) != 5 {
		t.Errorf("next %d, %d entries", x.Next(), len(x.All()))
	}
}

// P15.1 All: the order of the tables in the schema, whatever their IDs are
func TestOrder(t *testing.T) {
	for _, order := range [][]int{{0, 1, 2, 3, 4}, {4, 3, 2, 1, 0}, {2, 0, 4, 1, 3}} {
		var l []layout
		for _, i := range order {
			l = append(l, layouts[i])
		}
		x := New(schemaOf(l))
		for _, e := range append(some(), host(1), host(0), acl(8, none(), none()), acl(6, none(), none()), route(none(), 1), route(none(), 0)) {
			if _, code := x.Insert(e, 30); code != api.OK {
				t.Fatalf("Insert(%+v): %d", e, code)
			}
		}
		var want []api.Installed
		for _, table := range l {
			want = append(want, x.Table(table.id)...)
		}
		if got := x.All(); len(got) != 11 || !slices.EqualFunc(got, want, same) {
			t.Errorf("%v: %+v, not %+v", order, got, want)
		}
	}
}

// P15.1, P15.2: random calls, against the oracle
func TestRandomCalls(t *testing.T) {
	counts := map[string]int{}
	for seed := range int64(120) {
		c := rand.New(rand.NewSource(seed))
		x, o := pair()
		for range 120 {
			e := random(c)
			if len(o.entries) > 0 && c.Intn(3) == 0 {
				e = with(pick(c, o.entries).Entry, uint64(c.Intn(5)))
			}
			if c.Intn(30) == 0 {
				e.Table = 13
			}
			counts[randomCall(t, c, x, o, e)]++
			o.check(t, x)
			o.checkFind(t, x, e, random(c))
		}
		o.checkPoints(t, x)
	}
	for _, what := range []string{"insert 0", "insert 6", "insert 17", "insert 18", "modify 0", "modify 6", "modify 16", "delete 0", "delete 6", "delete 16", "restore true", "restore false"} {
		if counts[what] < 40 {
			t.Errorf("the calls are not diverse enough: %v", counts)
			break
		}
	}
}

// randomCall makes one call that changes a Store, and returns what it was.
func randomCall(t *testing.T, c *rand.Rand, x *Store, o *oracle, e api.Entry) string {
	t.Helper()
	switch c.Intn(9) {
	case 0:
		old, code := o.delete(e)
		if got, err := x.Delete(e); err != code || !same(got, old) {
			t.Fatalf("Delete(%+v): %+v, %d, not %+v, %d", e, got, err, old, code)
		}
		return fmt.Sprint("delete ", int(code))
	case 1, 2:
		old, code := o.modify(e)
		if got, err := x.Modify(e); err != code || !same(got, old) {
			t.Fatalf("Modify(%+v): %+v, %d, not %+v, %d", e, got, err, old, code)
		}
		return fmt.Sprint("modify ", int(code))
	case 3:
		i := api.Installed{Entry: e, Number: c.Intn(60) - 5, Owner: c.Intn(9)}
		want := o.restore(i)
		if got := x.Restore(i); got != want {
			t.Fatalf("Restore(%+v): %t, not %t", i, got, want)
		}
		return fmt.Sprint("restore ", want)
	case 4:
		if next := c.Intn(90) - 10; c.Intn(4) == 0 {
			x.Renumber(next)
			o.next = max(next, 1)
		}
		return "renumber"
	}
	if o.hasNumber(e.Table, o.next) {
		// Nothing is promised for this insertion.
		return "skipped"
	}
	owner := c.Intn(9)
	number, code := o.insert(e, owner)
	if got, err := x.Insert(e, owner); got != number || err != code {
		t.Fatalf("Insert(%+v): %d, %d, not %d, %d", e, got, err, number, code)
	}
	return fmt.Sprint("insert ", int(code))
}

// P15.2: what Delete and Modify return leads back
func TestBack(t *testing.T) {
	for seed := range int64(60) {
		c := rand.New(rand.NewSource(seed))
		x, o := pair()
		for range 30 {
			e := random(c)
			x.Insert(e, 30)
			o.insert(e, 30)
		}
		for _, i := range o.all() {
			gone, code := x.Delete(i.Entry)
			if code != api.OK || x.Len(i.Entry.Table) != len(o.table(i.Entry.Table))-1 {
				t.Fatalf("Delete(%+v): %d", i, code)
			}
			if !x.Restore(gone) {
				t.Fatalf("Restore(%+v)", gone)
			}
			o.check(t, x)
			old, _ := x.Modify(with(i.Entry, 99))
			if found, _ := x.Find(i.Entry); found.Entry.Args[0] != of(99) {
				t.Fatalf("Modify: %+v", found)
			}
			if _, code := x.Modify(old.Entry); code != api.OK {
				t.Fatalf("Modify(%+v): %d", old, code)
			}
			o.check(t, x)
		}
		o.checkPoints(t, x)
	}
}

// P15.2: numbers are never used twice
func TestNumbers(t *testing.T) {
	c := rand.New(rand.NewSource(1))
	x, _ := pair()
	last := 0
	for range 4000 {
		e := random(c)
		switch c.Intn(4) {
		case 0:
			x.Delete(e)
		case 1:
			x.Modify(e)
		default:
			if n, code := x.Insert(e, 30); code == api.OK {
				if n != last+1 {
					t.Fatalf("%d behind %d", n, last)
				}
				last = n
			}
		}
	}
	if last < 300 {
		t.Errorf("only %d insertions", last)
	}
}

// An insertion with a number that Restore gave to another entry, for which nothing is promised, leaves the numbers of a table different.
func TestTakenNumber(t *testing.T) {
	x, o := pair()
	x.Restore(api.Installed{Entry: host(1), Number: 1})
	o.restore(api.Installed{Entry: host(1), Number: 1})
	if n, code := x.Insert(host(2), 30); n != 0 || code == api.OK {
		t.Errorf("%d, %d", n, code)
	}
	o.check(t, x)
}

// scramble changes all memory of an installed entry.
func scramble(i api.Installed) {
	for k := range i.Entry.Matches {
		i.Entry.Matches[k] = api.Match{Present: true, Value: of(77), Prefix: 77}
	}
	for k := range i.Entry.Args {
		i.Entry.Args[k] = of(78)
	}
}

// copyOf returns a copy of an entry.
func copyOf(e api.Entry) api.Entry {
	e.Matches, e.Args = slices.Clone(e.Matches), slices.Clone(e.Args)
	return e
}

// P15.1: a Store shares no memory with arguments and results, nor results with each other (rule R3)
func TestSharing(t *testing.T) {
	s := schemaOf(layouts)
	x, y, o := New(s), New(s), &oracle{next: 1}
	for _, e := range some() {
		o.insert(e, 30)
		given := copyOf(with(e, 9))
		x.Insert(given, 30)
		scramble(api.Installed{Entry: given})
		given = copyOf(e)
		old, _ := x.Modify(given)
		scramble(api.Installed{Entry: given})
		scramble(old)
	}
	extra := api.Installed{Entry: host(2), Number: 50}
	o.restore(extra)
	extra.Entry = copyOf(extra.Entry)
	x.Restore(extra)
	scramble(extra)
	// The schema is changed behind the calls, too.
	for i := range s.Tables {
		s.Tables[i].ID, s.Tables[i].Size = 500+i, 0
		s.Tables[i].Keys[0].Kind = api.Range
	}
	clear(s.Fields)
	o.check(t, x)
	o.checkPoints(t, x)
	before, table := x.All(), x.Table(12)
	for _, i := range x.All() {
		found, _ := x.Find(i.Entry)
		scramble(found)
		scramble(i)
	}
	for _, l := range layouts {
		for a := range uint64(4) {
			found, _ := x.Lookup(l.id, api.Point{of(a), of(a)})
			scramble(found)
		}
		for _, i := range x.Table(l.id) {
			scramble(i)
		}
	}
	clear(append(x.All(), api.Installed{}))
	o.check(t, x)
	o.checkPoints(t, x)
	gone, _ := x.Delete(some()[0])
	scramble(gone)
	if !slices.EqualFunc(before, o.all(), same) || !slices.EqualFunc(table, o.table(12), same) {
		t.Error("a result is changed by a change of another one, or by a later call")
	}
	o.delete(some()[0])
	o.check(t, x)
	if len(y.All()) != 0 || y.Next() != 1 {
		t.Error("entries of a Store are in another one")
	}
}

// P15.1: arguments are not changed (rule R3)
func TestArguments(t *testing.T) {
	s := schemaOf(layouts)
	x := New(s)
	for n, e := range some() {
		given := copyOf(e)
		x.Insert(given, 30)
		x.Modify(given)
		x.Find(given)
		x.Delete(given)
		x.Restore(api.Installed{Entry: given, Number: n})
		if !entry.Same(given, e) {
			t.Errorf("%+v", given)
		}
	}
	if fmt.Sprint(s) != fmt.Sprint(schemaOf(layouts)) {
		t.Errorf("%+v", s)
	}
}

// P15.1: on a nil *Store, results are zero, and nothing happens; the zero Store has no tables either, lest it panic (rule R1)
func TestNil(t *testing.T) {
	var zero Store
	for _, x := range []*Store{nil, &zero} {
		for _, e := range append(some(), unknown(), api.Entry{}) {
			if n, code := x.Insert(e, 30); n != 0 || code != api.ErrUnknown {
				t.Errorf("Insert: %d, %d", n, code)
			}
			if i, code := x.Modify(e); code != api.ErrUnknown || !same(i, api.Installed{}) {
				t.Errorf("Modify: %+v, %d", i, code)
			}
			if i, code := x.Delete(e); code != api.ErrUnknown || !same(i, api.Installed{}) {
				t.Errorf("Delete: %+v, %d", i, code)
			}
			if i, ok := x.Find(e); ok || !same(i, api.Installed{}) {
				t.Errorf("Find: %+v", i)
			}
			if i, ok := x.Lookup(e.Table, api.Point{}); ok || !same(i, api.Installed{}) {
				t.Errorf("Lookup: %+v", i)
			}
			if x.Restore(api.Installed{Entry: e, Number: 1}) || x.Len(e.Table) != 0 || len(x.Table(e.Table)) != 0 || len(x.All()) != 0 || x.Next() != 0 {
				t.Errorf("%+v is there", e)
			}
		}
	}
	var x *Store
	x.Renumber(5)
	if x.Next() != 0 {
		t.Errorf("next %d", x.Next())
	}
	zero.Renumber(5)
}

// Entries and schemas for which nothing is promised lead to no panic (rule R1).
func TestAnything(t *testing.T) {
	twice := schemaOf(layouts)
	twice.Tables = append(twice.Tables, twice.Tables...)
	lost := schemaOf(layouts)
	lost.Fields = nil
	large := schemaOf([]layout{{10, -1, slices.Repeat([]int{api.Exact, 1}, 6)}, {11, math.MaxInt, []int{api.LPM, 500}}, {12, 2, nil}, {1, 2, []int{9, 0}}})
	for _, s := range []api.Schema{{}, schemaOf(layouts), twice, lost, large} {
		x := New(s)
		for _, id := range []int{10, 11, 12, 1, 13, 0, -1} {
			for keys := range 7 {
				for n, m := range []api.Match{none(), one(1), prefix(1, -1), prefix(1, 500), between(5, 1), ternary(3, 0)} {
					e := api.Entry{Table: id, Matches: slices.Repeat([]api.Match{m}, keys), Priority: n%3 - 1, Action: n, Args: make([]api.Value, n)}
					x.Insert(e, -n)
					x.Restore(api.Installed{Entry: e, Number: n - 2})
					x.Modify(e)
					x.Find(e)
					x.Lookup(id, api.Point{{Hi: math.MaxUint64, Lo: math.MaxUint64}})
					x.Renumber(n - 2)
				}
			}
		}
		for _, i := range x.All() {
			x.Delete(i.Entry)
		}
		if len(x.All()) != 0 {
			t.Errorf("%d entries are left", len(x.All()))
		}
	}
}
