package check

import (
	"slices"

	"matchguard/api"
)

// Order returns the indices of the tables in an order in which every table comes after all tables that it refers to; of several possible next tables the one with the least index comes first. It is promised for schemas for which Check returns OK.
func Order(s api.Schema) []int {
	targets := targetsOf(s)
	placed := map[int]bool{}
	isNext := func(t api.Table) bool {
		return !placed[t.ID] && all(targets[t.ID], func(to int) bool { return placed[to] })
	}
	var order []int
	for {
		next := slices.IndexFunc(s.Tables, isNext)
		// If the schema is not well-formed, there may be tables left that never become the next one.
		if next < 0 {
			return order
		}
		order = append(order, next)
		placed[s.Tables[next].ID] = true
	}
}

// targetsOf returns, for the ID of a table, the IDs of the tables that it refers to.
func targetsOf(s api.Schema) map[int][]int {
	targets := map[int][]int{}
	for _, r := range s.Refs {
		targets[r.Table] = append(targets[r.Table], r.ToTable)
	}
	return targets
}

// cycle is what a walk panics with when it comes back to a table on its way.
type cycle struct{}

// walk goes from table to table along the references. Its maps have the IDs of tables as keys.
type walk struct {
	targets map[int][]int
	onWay   map[int]bool
}

// hasCycle reports whether the references of a schema form a cycle.
func hasCycle(s api.Schema) (found bool) {
	defer func() {
		if _, stopped := recover().(cycle); stopped {
			found = true
		}
	}()
	w := &walk{targetsOf(s), map[int]bool{}}
	for _, t := range s.Tables {
		w.visit(t.ID)
	}
	return false
}

// visit panics if there is a cycle behind the table. It visits a table as often as ways lead to it: with so few references that is not often.
func (w *walk) visit(id int) {
	if w.onWay[id] {
		panic(cycle{})
	}
	w.onWay[id] = true
	for _, to := range w.targets[id] {
		w.visit(to)
	}
	w.onWay[id] = false
}
