package check

import "matchguard/api"

// kind is a kind of things that may occur only once, in a schema or in one of its elements.
type kind int

const (
	field kind = iota
	header
	state
	action
	table
	role
	param
	key
	fieldInHeader
	actionOfTable
	actionOfRole
	grant
)

// named is a name of a kind in the element with the index in; in is 0 for what may occur only once in the schema.
type named struct {
	kind kind
	in   int
	name string
}

// numbered is an ID in the place of a name.
type numbered struct {
	kind kind
	in   int
	id   int
}

// census counts what occurs.
type census struct {
	names map[named]int
	ids   map[numbered]int
}

func (c *census) name(k kind, in int, name string) {
	c.names[named{k, in, name}]++
}

func (c *census) id(k kind, in int, id int) {
	c.ids[numbered{k, in, id}]++
}

// element counts an element of the schema.
func (c *census) element(k kind, id int, name string) {
	c.id(k, 0, id)
	c.name(k, 0, name)
}

// occurOnce reports whether nothing occurs twice that may occur only once.
func occurOnce(s api.Schema) bool {
	c := &census{map[named]int{}, map[numbered]int{}}
	c.pipeline(s)
	c.actions(s)
	c.tables(s)
	c.roles(s)
	return !hasTwo(c.names) && !hasTwo(c.ids)
}

// hasTwo reports whether something was counted twice.
func hasTwo[T comparable](counts map[T]int) bool {
	for _, n := range counts {
		if n > 1 {
			return true
		}
	}
	return false
}

func (c *census) pipeline(s api.Schema) {
	for _, x := range s.Fields {
		c.element(field, x.ID, x.Name)
	}
	for _, x := range s.Headers {
		c.element(header, x.ID, x.Name)
		for _, id := range x.Fields {
			// A field may occur only once in all headers together.
			c.id(fieldInHeader, 0, id)
		}
	}
	for _, x := range s.States {
		c.id(state, 0, x.ID)
	}
}

func (c *census) actions(s api.Schema) {
	for i, x := range s.Actions {
		c.element(action, x.ID, x.Name)
		for _, p := range x.Params {
			c.name(param, i, p.Name)
		}
	}
}

func (c *census) tables(s api.Schema) {
	for i, x := range s.Tables {
		c.element(table, x.ID, x.Name)
		for _, k := range x.Keys {
			c.name(key, i, k.Name)
		}
		for _, id := range x.Actions {
			c.id(actionOfTable, i, id)
		}
	}
}

func (c *census) roles(s api.Schema) {
	for i, x := range s.Roles {
		c.element(role, x.ID, x.Name)
		for _, g := range x.Grants {
			c.id(grant, i, g.Table)
		}
		for _, id := range x.Actions {
			c.id(actionOfRole, i, id)
		}
	}
}
