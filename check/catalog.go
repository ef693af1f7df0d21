package check

import (
	"slices"

	"matchguard/api"
)

// catalog has the elements of a schema by their IDs.
type catalog struct {
	fields  map[int]api.Field
	headers map[int]api.Header
	states  map[int]api.State
	actions map[int]api.Action
	tables  map[int]api.Table
}

func newCatalog(s api.Schema) *catalog {
	return &catalog{
		fields:  byID(s.Fields, func(x api.Field) int { return x.ID }),
		headers: byID(s.Headers, func(x api.Header) int { return x.ID }),
		states:  byID(s.States, func(x api.State) int { return x.ID }),
		actions: byID(s.Actions, func(x api.Action) int { return x.ID }),
		tables:  byID(s.Tables, func(x api.Table) int { return x.ID }),
	}
}

func byID[T any](xs []T, id func(x T) int) map[int]T {
	found := map[int]T{}
	for _, x := range xs {
		found[id(x)] = x
	}
	return found
}

func has[T any](found map[int]T, id int) bool {
	_, ok := found[id]
	return ok
}

func (c *catalog) hasField(id int) bool  { return has(c.fields, id) }
func (c *catalog) hasHeader(id int) bool { return has(c.headers, id) }
func (c *catalog) hasAction(id int) bool { return has(c.actions, id) }
func (c *catalog) hasTable(id int) bool  { return has(c.tables, id) }

// elementsExist reports whether everything exists that the elements of a schema mention.
func (c *catalog) elementsExist(s api.Schema) bool {
	return c.hasField(api.FieldIngress) && c.hasField(api.FieldEgress) &&
		all(s.Headers, func(x api.Header) bool { return all(x.Fields, c.hasField) }) &&
		all(s.States, c.stateElementsExist) &&
		all(s.Actions, c.actionElementsExist) &&
		all(s.Tables, c.tableElementsExist) &&
		all(s.Stages, c.stageElementsExist) &&
		all(s.Roles, c.roleElementsExist) &&
		all(s.Refs, c.refElementsExist)
}

func (c *catalog) stateElementsExist(x api.State) bool {
	return (x.Header == 0 || c.hasHeader(x.Header)) &&
		(x.Select == 0 || c.hasField(x.Select)) &&
		all(x.Cases, func(b api.Case) bool { return c.isNext(b.Next) }) &&
		c.isNext(x.Default)
}

func (c *catalog) isNext(id int) bool {
	return id == api.Accept || id == api.Reject || has(c.states, id)
}

func (c *catalog) actionElementsExist(x api.Action) bool {
	return all(x.Body, func(p api.Prim) bool { return c.dstExists(p) && c.operandExists(x, p.Src) })
}

func (c *catalog) dstExists(x api.Prim) bool {
	switch x.Op {
	case api.PrimSet, api.PrimAdd, api.PrimXor:
		return c.hasField(x.Dst)
	case api.PrimPush, api.PrimPop:
		return c.hasHeader(x.Dst)
	}
	return true
}

// operandExists reports whether the field exists that is an operand in the action a, or the parameter.
func (c *catalog) operandExists(a api.Action, x api.Operand) bool {
	switch x.Kind {
	case api.FromField:
		return c.hasField(x.N)
	case api.FromParam:
		return x.N < len(a.Params)
	}
	return true
}

func (c *catalog) tableElementsExist(x api.Table) bool {
	return all(x.Keys, func(k api.Key) bool { return c.hasField(k.Field) }) &&
		all(x.Actions, c.hasAction) &&
		slices.Contains(x.Actions, x.Default)
}

func (c *catalog) stageElementsExist(x api.Stage) bool {
	return c.hasTable(x.Table) && (x.Header == 0 || c.hasHeader(x.Header))
}

func (c *catalog) roleElementsExist(x api.Role) bool {
	return all(x.Grants, func(g api.Grant) bool { return c.hasTable(g.Table) }) && all(x.Actions, c.hasAction)
}

func (c *catalog) refElementsExist(x api.Ref) bool {
	if !c.hasTable(x.Table) || !c.hasTable(x.ToTable) || x.ToKey >= len(c.tables[x.ToTable].Keys) {
		return false
	}
	from := c.tables[x.Table]
	if x.Action == 0 {
		return x.Key < len(from.Keys)
	}
	return slices.Contains(from.Actions, x.Action) && x.Param < len(c.actions[x.Action].Params)
}

// from returns the key whose values refer, if a reference has Action 0.
func (c *catalog) from(x api.Ref) api.Key {
	return c.tables[x.Table].Keys[x.Key]
}

// to returns the key to which a reference leads.
func (c *catalog) to(x api.Ref) api.Key {
	return c.tables[x.ToTable].Keys[x.ToKey]
}

// joinsExactKeys reports whether the keys of a reference are of the Kind Exact.
func (c *catalog) joinsExactKeys(x api.Ref) bool {
	return c.to(x).Kind == api.Exact && (x.Action != 0 || c.from(x).Kind == api.Exact)
}
