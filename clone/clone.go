// Package clone copies data of package api. What a layer keeps or returns shares no memory with anything else (rule R3), and so it is a copy.
package clone

import (
	"slices"

	"matchguard/api"
)

// Installed returns a copy of an installed entry.
func Installed(i api.Installed) api.Installed {
	i.Entry = Entry(i.Entry)
	return i
}

// Entry returns a copy of an entry.
func Entry(e api.Entry) api.Entry {
	e.Matches = slices.Clone(e.Matches)
	e.Args = slices.Clone(e.Args)
	return e
}

// Each returns a list of the copies that a function makes of the elements of l.
func Each[T any](l []T, of func(T) T) []T {
	copies := make([]T, len(l))
	for i, x := range l {
		copies[i] = of(x)
	}
	return copies
}

// Schema returns a copy of a schema.
func Schema(s api.Schema) api.Schema {
	s.Fields = slices.Clone(s.Fields)
	s.Headers = Each(s.Headers, header)
	s.States = Each(s.States, state)
	s.Actions = Each(s.Actions, action)
	s.Tables = Each(s.Tables, table)
	s.Stages = slices.Clone(s.Stages)
	s.Roles = Each(s.Roles, role)
	s.Refs = slices.Clone(s.Refs)
	return s
}

func header(h api.Header) api.Header {
	h.Fields = slices.Clone(h.Fields)
	return h
}

func state(s api.State) api.State {
	s.Cases = slices.Clone(s.Cases)
	return s
}

func action(a api.Action) api.Action {
	a.Params = slices.Clone(a.Params)
	a.Body = slices.Clone(a.Body)
	return a
}

func table(t api.Table) api.Table {
	t.Keys = slices.Clone(t.Keys)
	t.Actions = slices.Clone(t.Actions)
	t.DefaultArgs = slices.Clone(t.DefaultArgs)
	return t
}

func role(r api.Role) api.Role {
	r.Grants = Each(r.Grants, grant)
	r.Actions = slices.Clone(r.Actions)
	return r
}

func grant(g api.Grant) api.Grant {
	g.Keys = slices.Clone(g.Keys)
	return g
}
