package schema

import (
	"slices"

	"matchguard/api"
)

// Same reports whether all fields of a and b are equal (nil and empty lists are equal).
func Same(a, b api.Schema) bool {
	return a.MaxBatch == b.MaxBatch &&
		a.Budget == b.Budget &&
		slices.Equal(a.Fields, b.Fields) &&
		slices.EqualFunc(a.Headers, b.Headers, sameHeader) &&
		slices.EqualFunc(a.States, b.States, sameState) &&
		slices.EqualFunc(a.Actions, b.Actions, sameAction) &&
		slices.EqualFunc(a.Tables, b.Tables, sameTable) &&
		slices.Equal(a.Stages, b.Stages) &&
		slices.EqualFunc(a.Roles, b.Roles, sameRole) &&
		slices.Equal(a.Refs, b.Refs)
}

func sameHeader(a, b api.Header) bool {
	return a.ID == b.ID && a.Name == b.Name && slices.Equal(a.Fields, b.Fields)
}

func sameState(a, b api.State) bool {
	return a.ID == b.ID && a.Header == b.Header && a.Select == b.Select && slices.Equal(a.Cases, b.Cases) && a.Default == b.Default
}

func sameAction(a, b api.Action) bool {
	return a.ID == b.ID && a.Name == b.Name && slices.Equal(a.Params, b.Params) && slices.Equal(a.Body, b.Body) && a.Restriction == b.Restriction
}

func sameTable(a, b api.Table) bool {
	return a.ID == b.ID &&
		a.Name == b.Name &&
		slices.Equal(a.Keys, b.Keys) &&
		slices.Equal(a.Actions, b.Actions) &&
		a.Default == b.Default &&
		slices.Equal(a.DefaultArgs, b.DefaultArgs) &&
		a.Size == b.Size &&
		a.Restriction == b.Restriction
}

func sameRole(a, b api.Role) bool {
	return a.ID == b.ID &&
		a.Name == b.Name &&
		slices.EqualFunc(a.Grants, b.Grants, sameGrant) &&
		slices.Equal(a.Actions, b.Actions) &&
		a.Quota == b.Quota &&
		a.Audit == b.Audit
}

func sameGrant(a, b api.Grant) bool {
	return a.Table == b.Table && a.Read == b.Read && a.Write == b.Write && slices.Equal(a.Keys, b.Keys)
}
