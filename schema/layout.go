package schema

import "matchguard/api"

// codec is a direction, writing or reading. Its functions write what they are given a pointer to, or set it to what they read. The layout of schemas below is the same for both directions, so that they cannot disagree.
type codec struct {
	number func(n *int) // of two bytes
	small  func(n *int) // a number of one byte
	truth  func(x *bool)
	value  func(v *api.Value)
	text   func(s *string, most int)
	count  func(n, most int) int // writes n and returns how many elements to write, or returns how many to read
}

// list writes or reads a list of at most that many elements, each by the function element. A list that is read into must be empty.
func list[T any](c *codec, xs *[]T, most int, element func(x *T)) {
	n := c.count(len(*xs), most)
	// There are more elements than in xs only if they are read; what is written must stay as it is.
	if n > len(*xs) {
		*xs = make([]T, n)
	}
	for i := range n {
		element(&(*xs)[i])
	}
}

func (c *codec) schema(x *api.Schema) {
	c.number(&x.MaxBatch)
	c.number(&x.Budget)
	list(c, &x.Fields, api.MaxFields, c.field)
	list(c, &x.Headers, api.MaxHeaders, c.header)
	list(c, &x.States, api.MaxStates, c.state)
	list(c, &x.Actions, api.MaxActions, c.action)
	list(c, &x.Tables, api.MaxTables, c.table)
	list(c, &x.Stages, api.MaxStages, c.stage)
	list(c, &x.Roles, api.MaxRoles, c.role)
	list(c, &x.Refs, api.MaxRefs, c.ref)
}

func (c *codec) name(x *string) {
	c.text(x, api.MaxName)
}

func (c *codec) restriction(x *string) {
	c.text(x, api.MaxText)
}

func (c *codec) field(x *api.Field) {
	c.number(&x.ID)
	c.name(&x.Name)
	c.small(&x.Bits)
}

func (c *codec) header(x *api.Header) {
	c.number(&x.ID)
	c.name(&x.Name)
	list(c, &x.Fields, api.MaxFields, c.number)
}

func (c *codec) state(x *api.State) {
	c.number(&x.ID)
	c.number(&x.Header)
	c.number(&x.Select)
	list(c, &x.Cases, api.MaxCases, c.branch)
	c.number(&x.Default)
}

// branch is a case of a state.
func (c *codec) branch(x *api.Case) {
	c.value(&x.Value)
	c.value(&x.Mask)
	c.number(&x.Next)
}

func (c *codec) action(x *api.Action) {
	c.number(&x.ID)
	c.name(&x.Name)
	list(c, &x.Params, api.MaxParams, c.param)
	list(c, &x.Body, api.MaxPrims, c.prim)
	c.restriction(&x.Restriction)
}

func (c *codec) param(x *api.Param) {
	c.name(&x.Name)
	c.small(&x.Bits)
}

func (c *codec) prim(x *api.Prim) {
	c.small(&x.Op)
	c.number(&x.Dst)
	c.small(&x.Src.Kind)
	c.number(&x.Src.N)
	c.value(&x.Src.Value)
}

func (c *codec) table(x *api.Table) {
	c.number(&x.ID)
	c.name(&x.Name)
	list(c, &x.Keys, api.MaxKeys, c.key)
	list(c, &x.Actions, api.MaxActions, c.number)
	c.number(&x.Default)
	list(c, &x.DefaultArgs, api.MaxParams, c.value)
	c.number(&x.Size)
	c.restriction(&x.Restriction)
}

func (c *codec) key(x *api.Key) {
	c.name(&x.Name)
	c.number(&x.Field)
	c.small(&x.Kind)
}

func (c *codec) stage(x *api.Stage) {
	c.number(&x.Table)
	c.number(&x.Header)
}

func (c *codec) role(x *api.Role) {
	c.number(&x.ID)
	c.name(&x.Name)
	list(c, &x.Grants, api.MaxTables, c.grant)
	list(c, &x.Actions, api.MaxActions, c.number)
	c.number(&x.Quota)
	c.truth(&x.Audit)
}

func (c *codec) grant(x *api.Grant) {
	c.number(&x.Table)
	c.truth(&x.Read)
	c.truth(&x.Write)
	list(c, &x.Keys, api.MaxKeys, c.truth)
}

func (c *codec) ref(x *api.Ref) {
	c.number(&x.Table)
	c.small(&x.Key)
	c.number(&x.Action)
	c.small(&x.Param)
	c.number(&x.ToTable)
	c.small(&x.ToKey)
}
