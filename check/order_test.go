package check

import (
	"math"
	"math/rand"
	"slices"
	"testing"

	"matchguard/api"
)

// linked returns a well-formed schema, but for cycles, with n tables; the table with index i has the ID ids[i]. Each link is a reference from a table to another one, by their indices.
func linked(ids []int, links [][2]int) api.Schema {
	s := api.Schema{
		MaxBatch: 1, Budget: 1,
		Fields:  []api.Field{{ID: 1, Name: "in", Bits: 16}, {ID: 2, Name: "out", Bits: 16}},
		Actions: []api.Action{{ID: 1, Name: "none"}},
	}
	for i, id := range ids {
		s.Tables = append(s.Tables, api.Table{ID: id, Name: "t" + string(rune('a'+i)), Keys: []api.Key{{Name: "k", Field: 1, Kind: api.Exact}}, Actions: []int{1}, Default: 1, Size: 1})
	}
	for _, l := range links {
		s.Refs = append(s.Refs, api.Ref{Table: ids[l[0]], ToTable: ids[l[1]]})
	}
	return s
}

// firstOrder returns, of the orders of n tables in which each comes after those that it refers to, the one with the least first index, then the least second index, and so on; nil if there is none.
func firstOrder(n int, links [][2]int, before []int) []int {
	if len(before) == n {
		return before
	}
	for i := range n {
		fits := !slices.Contains(before, i)
		for _, l := range links {
			if l[0] == i && !slices.Contains(before, l[1]) {
				fits = false
			}
		}
		if fits {
			if order := firstOrder(n, links, append(slices.Clone(before), i)); order != nil {
				return order
			}
		}
	}
	return nil
}

// reaches returns for each pair of tables whether references lead from one to the other.
func reaches(n int, links [][2]int) [][]bool {
	way := make([][]bool, n)
	for i := range way {
		way[i] = make([]bool, n)
	}
	for _, l := range links {
		way[l[0]][l[1]] = true
	}
	for k := range n {
		for i := range n {
			for j := range n {
				way[i][j] = way[i][j] || way[i][k] && way[k][j]
			}
		}
	}
	return way
}

// checkLinks checks Check and Order for tables with these references.
func checkLinks(t *testing.T, ids []int, links [][2]int) (cyclic bool) {
	t.Helper()
	for i, row := range reaches(len(ids), links) {
		cyclic = cyclic || row[i]
	}
	s := linked(ids, links)
	want := api.OK
	if cyclic {
		want = api.ErrCycle
	}
	if code := Check(s); code != want {
		t.Fatalf("tables %v, references %v: %d, not %d", ids, links, code, want)
	}
	order := Order(s)
	if first := firstOrder(len(ids), links, []int{}); !cyclic && !slices.Equal(order, first) {
		t.Fatalf("tables %v, references %v: the order is %v, not %v", ids, links, order, first)
	}
	return cyclic
}

// P4.1 Check, Order: all references between three tables that there are room for.
func TestThreeTables(t *testing.T) {
	for _, ids := range [][]int{{1, 2, 3}, {65534, 7, 3}, {2, 3, 1}} {
		for set := range 1 << 9 {
			var links [][2]int
			for i := range 9 {
				if set>>i&1 == 1 {
					links = append(links, [2]int{i / 3, i % 3})
				}
			}
			if len(links) <= api.MaxRefs {
				checkLinks(t, ids, links)
			}
		}
	}
}

// P4.1 Check, Order: up to eight references between up to eight tables.
func TestManyTables(t *testing.T) {
	r := rand.New(rand.NewSource(1))
	cyclic := 0
	for range 20000 {
		n := 1 + r.Intn(api.MaxTables)
		ids := r.Perm(n)
		for i := range ids {
			ids[i] = 1 + ids[i]*(1+r.Intn(2)*9000)
		}
		if repeats(ids) {
			continue
		}
		forwards := r.Intn(3)
		ranks := r.Perm(n)
		var links [][2]int
		for range r.Intn(api.MaxRefs + 1) {
			l := [2]int{r.Intn(n), r.Intn(n)}
			// Most graphs would have cycles if all references were permitted.
			if forwards == 0 || ranks[l[0]] < ranks[l[1]] {
				links = append(links, l)
			}
		}
		if checkLinks(t, ids, links) {
			cyclic++
		}
	}
	if cyclic < 2000 || cyclic > 15000 {
		t.Errorf("%d graphs have cycles", cyclic)
	}
}

// P4.1 Check, Order: cycles and chains of all lengths.
func TestChains(t *testing.T) {
	ids := []int{8, 7, 6, 5, 4, 3, 2, 1}
	for n := range api.MaxTables {
		var up, down [][2]int
		for i := range n {
			up = append(up, [2]int{i, i + 1})
			down = append(down, [2]int{i + 1, i})
		}
		if checkLinks(t, ids, up) || checkLinks(t, ids, down) {
			t.Errorf("a chain of %d references is a cycle", n)
		}
		if !checkLinks(t, ids, append(up, [2]int{n, 0})) || !checkLinks(t, ids, append(down, [2]int{0, n})) {
			t.Errorf("a cycle of %d references is none", n+1)
		}
	}
}

// P4.1 Order: orders written by hand.
func TestOrder(t *testing.T) {
	for _, x := range []struct {
		n     int
		links [][2]int
		want  []int
	}{
		{0, nil, nil},
		{1, nil, []int{0}},
		{4, nil, []int{0, 1, 2, 3}},
		{4, [][2]int{{0, 1}}, []int{1, 0, 2, 3}},
		{4, [][2]int{{0, 3}}, []int{1, 2, 3, 0}},
		{4, [][2]int{{0, 3}, {1, 2}}, []int{2, 1, 3, 0}},
		{4, [][2]int{{1, 0}, {2, 1}, {3, 2}}, []int{0, 1, 2, 3}},
		{4, [][2]int{{0, 1}, {1, 2}, {2, 3}}, []int{3, 2, 1, 0}},
		{5, [][2]int{{0, 4}, {2, 0}, {1, 4}}, []int{3, 4, 0, 1, 2}},
		{5, [][2]int{{0, 4}, {0, 4}, {0, 3}}, []int{1, 2, 3, 4, 0}},
	} {
		ids := []int{20, 30, 10, 40, 5}[:x.n]
		if order := Order(linked(ids, x.links)); !slices.Equal(order, x.want) {
			t.Errorf("%v: %v, not %v", x.links, order, x.want)
		}
	}
	if order := Order(sample()); !slices.Equal(order, []int{1, 2, 0}) {
		t.Errorf("sample: %v", order)
	}
	if order := Order(greatest()); !slices.Equal(order, []int{7, 6, 5, 4, 3, 2, 1, 0}) {
		t.Errorf("the greatest schema: %v", order)
	}
}

// R1: all functions end for schemas that are not well-formed.
func TestStrangeSchemas(t *testing.T) {
	many := make([]api.Table, 100000)
	for i := range many {
		many[i].ID = i / 2
	}
	circle := make([]api.Ref, 100000)
	for i := range circle {
		circle[i] = api.Ref{Table: i, ToTable: (i + 1) % len(circle)}
	}
	for _, s := range []api.Schema{
		{},
		{Tables: make([]api.Table, 3)},
		{Tables: make([]api.Table, 3), Refs: make([]api.Ref, 3)},
		{Refs: []api.Ref{{Table: 1, ToTable: 2, Key: math.MinInt, ToKey: math.MaxInt}}},
		{Tables: []api.Table{{ID: 1}, {ID: 2}}, Refs: []api.Ref{{Table: 1, ToTable: 77}, {Table: 78, ToTable: 2}}},
		{Tables: []api.Table{{ID: math.MinInt}, {ID: math.MaxInt}}, Refs: []api.Ref{{Table: math.MinInt, ToTable: math.MaxInt}, {Table: math.MaxInt, ToTable: math.MinInt}}},
		{Tables: many[:1000]},
		{Tables: many, Refs: circle},
	} {
		if code := Check(s); code == api.OK {
			t.Error("a strange schema is well-formed")
		}
		if order := Order(s); len(order) > len(s.Tables) {
			t.Error("an order with too many tables")
		}
		TableOf(s, math.MinInt)
	}
}

// R3: each result of Order has memory of its own.
func TestOrderShares(t *testing.T) {
	s := sample()
	one, two := Order(s), Order(s)
	clear(one)
	if !slices.Equal(two, []int{1, 2, 0}) || !slices.Equal(Order(s), two) {
		t.Error("a result changes with another one")
	}
}
