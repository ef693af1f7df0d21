package check

import (
	"strings"

	"matchguard/api"
	"matchguard/value"
)

// sample returns a well-formed schema in which every clause of the chapter has something to look at. Elements of different kinds have the same IDs and names.
func sample() api.Schema {
	return api.Schema{
		MaxBatch: 32, Budget: 200,
		Fields: []api.Field{
			{ID: 1, Name: "in", Bits: 16}, {ID: 2, Name: "out", Bits: 16}, {ID: 3, Name: "dst", Bits: 32}, {ID: 4, Name: "ttl", Bits: 8},
			{ID: 5, Name: "meta", Bits: 9}, {ID: 6, Name: "src", Bits: 32}, {ID: 7, Name: "tag", Bits: 16},
		},
		Headers: []api.Header{{ID: 3, Name: "ip", Fields: []int{3, 4, 6}}, {ID: 8, Name: "tag", Fields: []int{7}}},
		States: []api.State{
			{ID: 3, Header: 3, Select: 4, Cases: []api.Case{{Value: value.Of(1), Mask: value.Of(3), Next: 9}, {Next: api.Reject}, {Value: value.Of(255), Mask: value.Of(255), Next: api.Accept}}, Default: 9},
			{ID: 9, Header: 8, Default: api.Accept},
			{ID: 10, Select: 5, Cases: []api.Case{{Value: value.Of(511), Mask: value.Of(511), Next: 3}}, Default: api.Reject},
		},
		Actions: []api.Action{
			{ID: 10, Name: "drop", Body: []api.Prim{{Op: api.PrimDrop}}},
			{ID: 11, Name: "to", Params: []api.Param{{Name: "host", Bits: 32}, {Name: "port", Bits: 16}}, Body: []api.Prim{
				{Op: api.PrimForward, Src: api.Operand{Kind: api.FromParam, N: 1}},
				{Op: api.PrimSet, Dst: 3, Src: api.Operand{Kind: api.FromParam, N: 0}},
				{Op: api.PrimAdd, Dst: 4, Src: api.Operand{Kind: api.FromConst, Value: value.Of(255)}},
				{Op: api.PrimXor, Dst: 5, Src: api.Operand{Kind: api.FromField, N: 4}},
				{Op: api.PrimPush, Dst: 3},
				{Op: api.PrimPop, Dst: 8},
				{Op: api.PrimForward, Src: api.Operand{Kind: api.FromConst, Value: value.Of(65535)}},
				{Op: api.PrimForward, Src: api.Operand{Kind: api.FromField, N: 7}},
			}},
			{ID: 3, Name: "none"},
		},
		Tables: []api.Table{
			{
				ID: 8, Name: "a", Keys: []api.Key{{Name: "dst", Field: 3, Kind: api.Exact}, {Name: "ttl", Field: 4, Kind: api.Ternary}, {Name: "tag", Field: 7, Kind: api.Exact}},
				Actions: []int{10, 11}, Default: 11, DefaultArgs: []api.Value{value.Ones(32), value.Of(65535)}, Size: 1,
			},
			{ID: 9, Name: "b", Keys: []api.Key{{Name: "dst", Field: 6, Kind: api.Exact}, {Name: "low", Field: 5, Kind: api.LPM}}, Actions: []int{10}, Default: 10, Size: 64},
			{ID: 3, Name: "ip", Keys: []api.Key{{Name: "tag", Field: 7, Kind: api.Exact}, {Name: "any", Field: 4, Kind: api.Range}}, Actions: []int{3, 11, 10}, Default: 3, Size: 64},
		},
		Stages: []api.Stage{{Table: 8, Header: 3}, {Table: 9}, {Table: 3, Header: 8}, {Table: 8}},
		Roles: []api.Role{
			{ID: 3, Name: "r", Grants: []api.Grant{{Table: 8, Write: true, Keys: []bool{true, false, true}}, {Table: 3, Read: true, Keys: []bool{false, false}}}, Actions: []int{10, 11}, Quota: 512, Audit: true},
			{ID: 4, Name: "tag"},
		},
		Refs: []api.Ref{
			{Table: 8, Key: 0, ToTable: 9, ToKey: 0}, {Table: 8, Key: 2, ToTable: 3, ToKey: 0},
			{Table: 8, Action: 11, Param: 1, ToTable: 3, ToKey: 0}, {Table: 3, Action: 11, Param: 0, ToTable: 9, ToKey: 0},
		},
	}
}

// change is a change of sample.
type change struct {
	name string
	do   func(s *api.Schema)
}

// after returns sample behind the changes.
func after(changes ...change) api.Schema {
	s := sample()
	for _, c := range changes {
		c.do(&s)
	}
	return s
}

// lengthen adds actions, tables and restrictions, all within their limits, so that an encoding has more than 8000 bytes.
func lengthen(s *api.Schema) {
	long := strings.Repeat("x", api.MaxText)
	for i := len(s.Actions); i < api.MaxActions; i++ {
		s.Actions = append(s.Actions, api.Action{ID: 100 + i, Name: "more" + string(rune('a'+i))})
	}
	for i := len(s.Tables); i < api.MaxTables; i++ {
		s.Tables = append(s.Tables, api.Table{ID: 100 + i, Name: "more" + string(rune('a'+i)), Keys: []api.Key{{Name: "k", Field: 1, Kind: api.Exact}}, Actions: []int{3}, Default: 3, Size: 1})
	}
	for i := range s.Actions {
		s.Actions[i].Restriction = long
	}
	for i := range s.Tables {
		s.Tables[i].Restriction = long
	}
}

// fine are changes behind which the schema is well-formed.
func fine() []change {
	return []change{
		{"nothing", func(s *api.Schema) {}},
		{"a long identifier", func(s *api.Schema) { s.Fields[2].Name = "a23456789_bcdefghijklmno" }},
		{"an identifier of one byte", func(s *api.Schema) { s.Headers[0].Name = "z" }},
		{"an identifier with all that it may contain", func(s *api.Schema) { s.Roles[0].Name = "a_0z9__" }},
		{"a field priority", func(s *api.Schema) { s.Fields[0].Name = "priority" }},
		{"a header true", func(s *api.Schema) { s.Headers[0].Name = "true" }},
		{"an action false", func(s *api.Schema) { s.Actions[0].Name = "false" }},
		{"a table priority", func(s *api.Schema) { s.Tables[0].Name = "priority" }},
		{"a role true", func(s *api.Schema) { s.Roles[0].Name = "true" }},
		{"keys like reserved names", func(s *api.Schema) { s.Tables[0].Keys[0].Name, s.Tables[0].Keys[1].Name = "priority_", "tru" }},
		{"a parameter like a reserved name", func(s *api.Schema) { s.Actions[1].Params[0].Name = "falsey" }},
		{"a restriction that is none", func(s *api.Schema) { s.Tables[0].Restriction, s.Actions[0].Restriction = "(((", "&&" }},
		{"MaxBatch 1", func(s *api.Schema) { s.MaxBatch = 1 }},
		{"Budget 1", func(s *api.Schema) { s.Budget = 1 }},
		{"the greatest IDs", func(s *api.Schema) {
			s.Fields[4].ID, s.States[2].ID, s.Roles[0].ID = 65534, 65534, 65534
			s.States[2].Select, s.Actions[1].Body[3].Dst, s.Tables[1].Keys[1].Field = 65534, 65534, 65534
		}},
		{"the least IDs", func(s *api.Schema) { s.Roles[0].ID, s.States[2].ID = 1, 1 }},
		{"a field of one bit", func(s *api.Schema) { s.Fields[4].Bits = 1; s.States[2].Cases = nil; s.Actions[1].Body[3].Dst = 4 }},
		{"a field of 128 bits", func(s *api.Schema) { s.Fields[4].Bits = 128 }},
		{"a parameter of 128 bits", func(s *api.Schema) {
			s.Actions[2].Params = []api.Param{{Name: "p", Bits: 128}}
			s.Tables[2].DefaultArgs = []api.Value{value.Ones(128)}
		}},
		{"no quota", func(s *api.Schema) { s.Roles[0].Quota = 0 }},
		{"a stage twice", func(s *api.Schema) { s.Stages = append(s.Stages, s.Stages[0]) }},
		{"a reference twice", func(s *api.Schema) { s.Refs = append(s.Refs, s.Refs[0]) }},
		{"a case twice", func(s *api.Schema) { s.States[0].Cases = append(s.States[0].Cases, s.States[0].Cases[0]) }},
		{"a field in two keys of a table", func(s *api.Schema) { s.Tables[0].Keys[1].Field = 3 }},
		{"an action for two tables and two roles", func(s *api.Schema) { s.Roles[1].Actions = []int{11, 10, 3} }},
		{"a table for two roles", func(s *api.Schema) { s.Roles[1].Grants = []api.Grant{{Table: 8, Keys: make([]bool, 3)}} }},
		{"the same name for a key and another element", func(s *api.Schema) { s.Tables[0].Keys[0].Name = "to" }},
		{"the same name for a parameter of another action", func(s *api.Schema) {
			s.Actions[2].Params = []api.Param{{Name: "host", Bits: 1}, {Name: "port", Bits: 1}}
			s.Tables[2].DefaultArgs = make([]api.Value, 2)
		}},
		{"an action without primitives", func(s *api.Schema) { s.Actions[1].Body = nil }},
		{"all keys Ternary or Range", func(s *api.Schema) {
			s.Refs = nil
			s.Tables[0].Keys[0].Kind, s.Tables[0].Keys[2].Kind = api.Range, api.Ternary
		}},
		{"one LPM key in each table", func(s *api.Schema) { s.Tables[0].Keys[1].Kind, s.Tables[2].Keys[1].Kind = api.LPM, api.LPM }},
		{"a state with Select and without cases", func(s *api.Schema) { s.States[0].Cases = nil }},
		{"a state that leads to itself", func(s *api.Schema) { s.States[1].Default = 9; s.States[0].Cases[0].Next = 3 }},
		{"a state that extracts and selects nothing", func(s *api.Schema) { s.States[1].Header = 0 }},
		{"no states, stages, roles and references", func(s *api.Schema) { s.States, s.Stages, s.Roles, s.Refs = nil, nil, nil, nil }},
		{"no more than the fields 1 and 2", func(s *api.Schema) {
			*s = api.Schema{MaxBatch: 1, Budget: 1, Fields: []api.Field{{ID: 2, Name: "b", Bits: 16}, {ID: 1, Name: "a", Bits: 16}}}
		}},
		{"empty lists", func(s *api.Schema) {
			s.Actions[0].Params, s.Tables[1].DefaultArgs, s.States[1].Cases, s.Roles[1].Grants = []api.Param{}, []api.Value{}, []api.Case{}, []api.Grant{}
		}},
		{"the ports in keys, primitives and a state", func(s *api.Schema) {
			s.Tables[0].Keys[1].Field, s.Actions[1].Body[3].Dst, s.States[2].Select = 1, 2, 1
		}},
		{"a field in no header", func(s *api.Schema) { s.Headers, s.States, s.Stages, s.Actions[1].Body = s.Headers[1:], nil, nil, nil }},
		{"fields without whole bytes in a header with whole bytes", func(s *api.Schema) { s.Fields[3].Bits = 9; s.Fields[5].Bits = 7; s.Refs = nil }},
		{"a header of 64 bytes", func(s *api.Schema) { grow(s, 128, 128, 128, 120, 8) }},
		{"two headers of 64 bytes", func(s *api.Schema) {
			grow(s, 128, 128, 128, 128)
			grow(s, 128, 128, 128, 128)
		}},
		{"a value of a case with fewer bits than its mask", func(s *api.Schema) { s.States[0].Cases[2].Value = value.Of(0x81) }},
		{"a constant 0 and one that is shorter", func(s *api.Schema) {
			s.Actions[1].Body[2].Src.Value, s.Actions[1].Body[6].Src.Value = value.Of(0), value.Of(1)
		}},
		{"a shorter parameter and field", func(s *api.Schema) { s.Actions[1].Body[1].Dst = 6; s.Actions[1].Body[7].Src.N = 4 }},
		{"a field that is added to itself", func(s *api.Schema) { s.Actions[1].Body[3].Src.N = 5 }},
		{"default arguments 0", func(s *api.Schema) { s.Tables[0].DefaultArgs = make([]api.Value, 2) }},
		{"two ways from table to table", func(s *api.Schema) {
			s.Refs = append(s.Refs, api.Ref{Table: 8, Action: 11, ToTable: 9}, api.Ref{Table: 3, Action: 11, ToTable: 9})
		}},
	}
}

// grow adds a header with new fields of so many bits.
func grow(s *api.Schema, bits ...int) {
	id := 200 + len(s.Fields)
	h := api.Header{ID: id, Name: "grown" + string(rune('a'+len(s.Headers)))}
	for i, n := range bits {
		s.Fields = append(s.Fields, api.Field{ID: id + i, Name: "grown" + string(rune('a'+len(s.Fields))), Bits: n})
		h.Fields = append(h.Fields, id+i)
	}
	s.Headers = append(s.Headers, h)
}
