package check

import (
	"math"
	"strings"

	"matchguard/api"
	"matchguard/value"
)

// clause is an error of the chapter's list with changes that cause it, and none that is listed before it.
type clause struct {
	code    api.Errno
	changes []change
}

// clauses are the errors 2 to 9 of the chapter, in its order.
func clauses() []clause {
	return []clause{
		{api.ErrForm, wrongNames()},
		{api.ErrArg, wrongNumbers()},
		{api.ErrDuplicate, twice()},
		{api.ErrKind, wrongKinds()},
		{api.ErrUnknown, unknown()},
		{api.ErrKind, notExact()},
		{api.ErrWidth, wrongWidths()},
		{api.ErrCycle, cycles()},
	}
}

// notEncodable are the changes behind which Encode has an error, with this error.
func notEncodable() []clause {
	return []clause{
		{api.ErrLimit, []change{
			{"13 stages", func(s *api.Schema) { s.Stages = make([]api.Stage, 13) }},
			{"a name of 25 bytes", func(s *api.Schema) { s.Fields[0].Name = strings.Repeat("a", 25) }},
			{"five keys", func(s *api.Schema) { s.Tables[0].Keys = make([]api.Key, 5) }},
			{"a restriction of 401 bytes", func(s *api.Schema) { s.Tables[0].Restriction = strings.Repeat("a", 401) }},
			{"an encoding of more than 8000 bytes", lengthen},
			{"a million references", func(s *api.Schema) { s.Refs = make([]api.Ref, 1000000) }},
		}},
		{api.ErrForm, []change{
			{"a name with a byte 9", func(s *api.Schema) { s.Fields[0].Name = "a\t" }},
			{"a restriction with a byte 127", func(s *api.Schema) { s.Actions[0].Restriction = "\x7f" }},
		}},
		{api.ErrArg, []change{
			{"Budget 65536", func(s *api.Schema) { s.Budget = 65536 }},
			{"a negative MaxBatch", func(s *api.Schema) { s.MaxBatch = -1 }},
			{"a negative quota", func(s *api.Schema) { s.Roles[0].Quota = -1 }},
			{"the least ID of a state", func(s *api.Schema) { s.States[0].ID = math.MinInt }},
			{"256 bits", func(s *api.Schema) { s.Fields[4].Bits = 256 }},
			{"a negative operand", func(s *api.Schema) { s.Actions[1].Body[0].Src.N = -1 }},
			{"a negative key of a reference", func(s *api.Schema) { s.Refs[0].Key = -1 }},
			{"a negative key to which a reference leads", func(s *api.Schema) { s.Refs[0].ToKey = math.MinInt }},
			{"a great parameter of a reference", func(s *api.Schema) { s.Refs[2].Param = math.MaxInt }},
		}},
	}
}

// wrongNames are changes of each name.
func wrongNames() []change {
	places := []struct {
		name string
		at   func(s *api.Schema) *string
		in   bool // it is the name of a key or a parameter
	}{
		{"the first field", func(s *api.Schema) *string { return &s.Fields[0].Name }, false},
		{"the last field", func(s *api.Schema) *string { return &s.Fields[6].Name }, false},
		{"a header", func(s *api.Schema) *string { return &s.Headers[1].Name }, false},
		{"an action", func(s *api.Schema) *string { return &s.Actions[2].Name }, false},
		{"a table", func(s *api.Schema) *string { return &s.Tables[2].Name }, false},
		{"a role", func(s *api.Schema) *string { return &s.Roles[1].Name }, false},
		{"a parameter", func(s *api.Schema) *string { return &s.Actions[1].Params[1].Name }, true},
		{"a key", func(s *api.Schema) *string { return &s.Tables[2].Keys[1].Name }, true},
		{"the first key", func(s *api.Schema) *string { return &s.Tables[0].Keys[0].Name }, true},
	}
	names := []string{"", "_", "_a", "0", "9a", "A", "Abc", "aB", "a-b", "a b", " a", "a ", "a.b", "a`", "a{", "a@", "a[", "a/", "a:", "{", "`", "a^", "::"}
	var all []change
	for _, p := range places {
		wrong := names
		if p.in {
			wrong = append([]string{"priority", "true", "false"}, names...)
		}
		for _, n := range wrong {
			all = append(all, change{p.name + " named '" + n + "'", func(s *api.Schema) { *p.at(s) = n }})
		}
	}
	return all
}

// wrongNumbers are changes of each number that has a range.
func wrongNumbers() []change {
	id := []int{0, 65535}
	bits := []int{0, 129, 255}
	places := []struct {
		name  string
		at    func(s *api.Schema) *int
		wrong []int
	}{
		{"MaxBatch", func(s *api.Schema) *int { return &s.MaxBatch }, []int{0, 33, 65535}},
		{"Budget", func(s *api.Schema) *int { return &s.Budget }, []int{0, 201, 65535}},
		{"the ID of a field", func(s *api.Schema) *int { return &s.Fields[6].ID }, id},
		{"the ID of a header", func(s *api.Schema) *int { return &s.Headers[1].ID }, id},
		{"the ID of a state", func(s *api.Schema) *int { return &s.States[2].ID }, id},
		{"the ID of an action", func(s *api.Schema) *int { return &s.Actions[2].ID }, id},
		{"the ID of a table", func(s *api.Schema) *int { return &s.Tables[2].ID }, id},
		{"the ID of a role", func(s *api.Schema) *int { return &s.Roles[1].ID }, id},
		{"the bits of a field", func(s *api.Schema) *int { return &s.Fields[6].Bits }, bits},
		{"the bits of a parameter", func(s *api.Schema) *int { return &s.Actions[1].Params[1].Bits }, bits},
		{"the size of a table", func(s *api.Schema) *int { return &s.Tables[2].Size }, []int{0, 65, 65535}},
		{"the quota of a role", func(s *api.Schema) *int { return &s.Roles[1].Quota }, []int{513, 65535}},
	}
	all := []change{
		{"no keys", func(s *api.Schema) { s.Tables[2].Keys = nil }},
		{"an empty list of keys", func(s *api.Schema) { s.Tables[0].Keys = []api.Key{} }},
		{"no fields of a header", func(s *api.Schema) { s.Headers[1].Fields = nil }},
		{"a table that is zero but for its name", func(s *api.Schema) { s.Tables = append(s.Tables, api.Table{Name: "new"}) }},
	}
	for _, p := range places {
		for _, n := range p.wrong {
			all = append(all, change{p.name, func(s *api.Schema) { *p.at(s) = n }})
		}
	}
	return all
}

func twice() []change {
	return []change{
		{"the ID of a field", func(s *api.Schema) { s.Fields[6].ID = 1 }},
		{"the ID of a header", func(s *api.Schema) { s.Headers[1].ID = 3 }},
		{"the ID of a state", func(s *api.Schema) { s.States[2].ID = 3 }},
		{"the ID of an action", func(s *api.Schema) { s.Actions[2].ID = 10 }},
		{"the ID of a table", func(s *api.Schema) { s.Tables[2].ID = 8 }},
		{"the ID of a role", func(s *api.Schema) { s.Roles[1].ID = 3 }},
		{"the name of a field", func(s *api.Schema) { s.Fields[6].Name = "in" }},
		{"the name of a header", func(s *api.Schema) { s.Headers[1].Name = "ip" }},
		{"the name of an action", func(s *api.Schema) { s.Actions[2].Name = "drop" }},
		{"the name of a table", func(s *api.Schema) { s.Tables[2].Name = "a" }},
		{"the name of a role", func(s *api.Schema) { s.Roles[1].Name = "r" }},
		{"the name of a parameter", func(s *api.Schema) { s.Actions[1].Params[1].Name = "host" }},
		{"the name of a key", func(s *api.Schema) { s.Tables[0].Keys[2].Name = "dst" }},
		{"the name of a key in the last table", func(s *api.Schema) { s.Tables[2].Keys[1].Name = "tag" }},
		{"a field in a header", func(s *api.Schema) { s.Headers[0].Fields = []int{3, 4, 6, 3} }},
		{"a field in two headers", func(s *api.Schema) { s.Headers[1].Fields = []int{7, 6} }},
		{"a field that does not exist in two headers", func(s *api.Schema) { s.Headers[0].Fields, s.Headers[1].Fields = []int{77}, []int{77} }},
		{"an action of a table", func(s *api.Schema) { s.Tables[2].Actions = []int{3, 11, 10, 3} }},
		{"an action that does not exist of a table", func(s *api.Schema) { s.Tables[2].Actions = []int{77, 3, 77} }},
		{"an action of a role", func(s *api.Schema) { s.Roles[0].Actions = []int{10, 11, 11} }},
		{"an action of the last role", func(s *api.Schema) { s.Roles[1].Actions = []int{3, 3} }},
		{"a grant", func(s *api.Schema) { s.Roles[0].Grants[1].Table = 8 }},
		{"a grant for a table that does not exist", func(s *api.Schema) { s.Roles[1].Grants = []api.Grant{{Table: 77}, {Table: 77, Read: true}} }},
	}
}

func wrongKinds() []change {
	all := []change{
		{"Op 0", func(s *api.Schema) { s.Actions[0].Body[0].Op = 0 }},
		{"Op 8", func(s *api.Schema) { s.Actions[0].Body[0].Op = 8 }},
		{"Op 255 of the last primitive", func(s *api.Schema) { s.Actions[1].Body[7].Op = 255 }},
		{"a primitive that is zero", func(s *api.Schema) { s.Actions[2].Body = make([]api.Prim, 1) }},
		{"Dst of PrimDrop", func(s *api.Schema) { s.Actions[0].Body[0].Dst = 3 }},
		{"Dst of PrimForward", func(s *api.Schema) { s.Actions[1].Body[7].Dst = 2 }},
		{"N of a constant to forward", func(s *api.Schema) { s.Actions[1].Body[6].Src.N = 1 }},
		{"Value of a field to forward", func(s *api.Schema) { s.Actions[1].Body[7].Src.Value = value.Of(1) }},
		{"Value of a parameter", func(s *api.Schema) { s.Actions[1].Body[1].Src.Value = api.Value{Hi: 1} }},
		{"two LPM keys", func(s *api.Schema) { s.Tables[1].Keys[0].Kind = api.LPM }},
		{"the first and the last key LPM", func(s *api.Schema) { s.Tables[0].Keys[0].Kind, s.Tables[0].Keys[2].Kind = api.LPM, api.LPM }},
		{"Select 0 and cases", func(s *api.Schema) { s.States[2].Select = 0 }},
		{"Select 0 and a case that is zero", func(s *api.Schema) { s.States[1].Cases = make([]api.Case, 1) }},
		{"Param with Action 0", func(s *api.Schema) { s.Refs[1].Param = 1 }},
		{"Key with an action", func(s *api.Schema) { s.Refs[3].Key = 1 }},
	}
	for _, kind := range []int{0, 5, 255} {
		all = append(all, change{"Kind of a key", func(s *api.Schema) { s.Tables[2].Keys[1].Kind = kind }})
	}
	operand := func(name string, at int, o api.Operand) {
		all = append(all, change{name, func(s *api.Schema) { s.Actions[1].Body[at].Src = o }})
	}
	for _, at := range []int{0, 1, 2, 3, 6, 7} {
		operand("Kind 0 of an operand", at, api.Operand{})
		operand("Kind 4 of an operand", at, api.Operand{Kind: 4})
		operand("Kind 255 of an operand", at, api.Operand{Kind: 255})
		operand("N of a constant", at, api.Operand{Kind: api.FromConst, N: 1})
		operand("Value of a field", at, api.Operand{Kind: api.FromField, N: 4, Value: value.Of(1)})
		operand("Value of a parameter", at, api.Operand{Kind: api.FromParam, Value: value.Of(1)})
	}
	for _, o := range []api.Operand{{Kind: api.FromConst}, {N: 1}, {Value: value.Of(1)}, {Value: api.Value{Hi: 1}}, {Kind: api.FromField, N: 4}} {
		operand("the operand of PrimPush", 4, o)
		operand("the operand of PrimPop", 5, o)
		all = append(all, change{"the operand of PrimDrop", func(s *api.Schema) { s.Actions[0].Body[0].Src = o }})
	}
	return all
}

func unknown() []change {
	return []change{
		{"no field 1", func(s *api.Schema) { s.Fields[0].ID = 77 }},
		{"no field 2", func(s *api.Schema) { s.Fields[1].ID = 77 }},
		{"no fields", func(s *api.Schema) { *s = api.Schema{MaxBatch: 1, Budget: 2} }},
		{"a field of a header", func(s *api.Schema) { s.Headers[1].Fields = []int{7, 77} }},
		{"a field 0 of a header", func(s *api.Schema) { s.Headers[1].Fields = []int{0} }},
		{"a header as a field of a header", func(s *api.Schema) { s.Headers[1].Fields = []int{8} }},
		{"a header of a state", func(s *api.Schema) { s.States[2].Header = 77 }},
		{"a field as a header of a state", func(s *api.Schema) { s.States[2].Header = 4 }},
		{"a field of a state", func(s *api.Schema) { s.States[2].Select = 77 }},
		{"a header as a field of a state", func(s *api.Schema) { s.States[2].Select = 8 }},
		{"a field of a state without cases", func(s *api.Schema) { s.States[1].Select = 77 }},
		{"a next state", func(s *api.Schema) { s.States[0].Cases[2].Next = 77 }},
		{"a next state 65534", func(s *api.Schema) { s.States[0].Cases[0].Next = 65534 }},
		{"a header as a next state", func(s *api.Schema) { s.States[2].Cases[0].Next = 8 }},
		{"a next state by default", func(s *api.Schema) { s.States[1].Default = 77 }},
		{"the field that is set", func(s *api.Schema) { s.Actions[1].Body[1].Dst = 8 }},
		{"the field 0 that is set", func(s *api.Schema) { s.Actions[1].Body[1].Dst = 0 }},
		{"the field to which is added", func(s *api.Schema) { s.Actions[1].Body[2].Dst = 8 }},
		{"the field that is combined", func(s *api.Schema) { s.Actions[1].Body[3].Dst = 8 }},
		{"the header that becomes valid", func(s *api.Schema) { s.Actions[1].Body[4].Dst = 4 }},
		{"the header 0 that becomes valid", func(s *api.Schema) { s.Actions[1].Body[4].Dst = 0 }},
		{"the header that becomes invalid", func(s *api.Schema) { s.Actions[1].Body[5].Dst = 4 }},
		{"a field of an operand", func(s *api.Schema) { s.Actions[1].Body[3].Src.N = 8 }},
		{"a field 0 of an operand", func(s *api.Schema) { s.Actions[1].Body[3].Src.N = 0 }},
		{"a field of an operand to forward", func(s *api.Schema) { s.Actions[1].Body[7].Src.N = 77 }},
		{"a parameter of an operand", func(s *api.Schema) { s.Actions[1].Body[1].Src.N = 2 }},
		{"a parameter of an operand to forward", func(s *api.Schema) { s.Actions[1].Body[0].Src.N = 65535 }},
		{"a parameter of an action without parameters", func(s *api.Schema) {
			s.Actions[2].Body = []api.Prim{{Op: api.PrimForward, Src: api.Operand{Kind: api.FromParam}}}
		}},
		{"a field of a key", func(s *api.Schema) { s.Tables[2].Keys[1].Field = 77 }},
		{"a field 0 of a key", func(s *api.Schema) { s.Tables[1].Keys[1].Field = 0 }},
		{"an action of a table", func(s *api.Schema) { s.Tables[2].Actions = []int{3, 11, 10, 77} }},
		{"an action 0 as the default", func(s *api.Schema) { s.Tables[1].Actions, s.Tables[1].Default = []int{0, 10}, 0 }},
		{"an action as the default that does not exist", func(s *api.Schema) { s.Tables[1].Actions, s.Tables[1].Default = []int{77, 10}, 77 }},
		{"a default that is not among the actions", func(s *api.Schema) { s.Tables[1].Default = 3 }},
		{"a default 0", func(s *api.Schema) { s.Tables[1].Default = 0 }},
		{"a table without actions", func(s *api.Schema) { s.Tables[1].Actions = nil }},
		{"a table of a stage", func(s *api.Schema) { s.Stages[3].Table = 10 }},
		{"a table 0 of a stage", func(s *api.Schema) { s.Stages[3].Table = 0 }},
		{"a header of a stage", func(s *api.Schema) { s.Stages[3].Header = 9 }},
		{"a table of a grant", func(s *api.Schema) { s.Roles[0].Grants[1].Table = 10 }},
		{"a table 0 of a grant", func(s *api.Schema) { s.Roles[1].Grants = make([]api.Grant, 1) }},
		{"an action of a role", func(s *api.Schema) { s.Roles[0].Actions = []int{10, 8} }},
		{"an action 0 of a role", func(s *api.Schema) { s.Roles[1].Actions = []int{0} }},
		{"a reference that is zero", func(s *api.Schema) { s.Refs = append(s.Refs, api.Ref{}) }},
		{"the table of a reference", func(s *api.Schema) { s.Refs[3].Table = 10 }},
		{"the table 0 of a reference", func(s *api.Schema) { s.Refs[0].Table = 0 }},
		{"the table to which a reference leads", func(s *api.Schema) { s.Refs[3].ToTable = 10 }},
		{"the table 0 to which a reference leads", func(s *api.Schema) { s.Refs[0].ToTable = 0 }},
		{"the key to which a reference leads", func(s *api.Schema) { s.Refs[0].ToKey = 2 }},
		{"the key to which a reference of an action leads", func(s *api.Schema) { s.Refs[3].ToKey = 255 }},
		{"the key of a reference", func(s *api.Schema) { s.Refs[1].Key = 3 }},
		{"the key of a reference of a smaller table", func(s *api.Schema) { s.Refs = []api.Ref{{Table: 3, Key: 2, ToTable: 9}} }},
		{"the action of a reference", func(s *api.Schema) { s.Refs[2].Action = 77 }},
		{"an action of a reference that its table does not have", func(s *api.Schema) {
			s.Actions[2].Params = []api.Param{{Name: "p", Bits: 32}, {Name: "q", Bits: 16}}
			s.Tables[2].DefaultArgs = make([]api.Value, 2)
			s.Refs[2].Action = 3
		}},
		{"the parameter of a reference", func(s *api.Schema) { s.Refs[2].Param = 2 }},
		{"the parameter of a reference of an action without parameters", func(s *api.Schema) { s.Refs[3].Action = 3 }},
	}
}

func notExact() []change {
	var all []change
	for _, kind := range []int{api.LPM, api.Ternary, api.Range} {
		all = append(all,
			change{"the key that refers", func(s *api.Schema) { s.Tables[0].Keys[0].Kind = kind }},
			change{"the last key that refers", func(s *api.Schema) { s.Tables[0].Keys[2].Kind = kind }},
			change{"the key to which a key and a parameter refer", func(s *api.Schema) { s.Tables[2].Keys[0].Kind = kind }},
			change{"the key to which a parameter refers", func(s *api.Schema) { s.Tables[2].Keys[0].Kind = kind; s.Refs = s.Refs[2:] }},
		)
	}
	return append(all,
		change{"another key that refers", func(s *api.Schema) { s.Refs[0].Key = 1 }},
		change{"another key to which a parameter refers", func(s *api.Schema) { s.Refs[3].ToKey = 1 }},
		change{"keys of different widths, not Exact", func(s *api.Schema) { s.Refs[1].ToKey = 1 }},
	)
}

func wrongWidths() []change {
	return []change{
		{"field 1 of 15 bits", func(s *api.Schema) { s.Fields[0].Bits = 15 }},
		{"field 1 of 32 bits", func(s *api.Schema) { s.Fields[0].Bits = 32 }},
		{"field 2 of 17 bits", func(s *api.Schema) { s.Fields[1].Bits = 17 }},
		{"field 1 in a header", func(s *api.Schema) { s.Headers[0].Fields = []int{3, 1} }},
		{"field 2 in a header", func(s *api.Schema) { s.Headers[1].Fields = []int{2} }},
		{"a header without whole bytes", func(s *api.Schema) { s.Headers[1].Fields = []int{7, 5} }},
		{"a header of 80 bytes", func(s *api.Schema) { grow(s, 128, 128, 128, 128, 128) }},
		{"a header of 65 bytes", func(s *api.Schema) { grow(s, 128, 128, 128, 128, 8) }},
		{"a header of 64 bytes and a bit", func(s *api.Schema) { grow(s, 128, 128, 128, 128, 1) }},
		{"a value of a case", func(s *api.Schema) {
			s.States[0].Cases[2].Value, s.States[0].Cases[2].Mask = value.Of(256), value.Of(256)
		}},
		{"a mask of a case", func(s *api.Schema) { s.States[0].Cases[0].Mask = value.Of(256 + 3) }},
		{"a mask of a case above 64 bits", func(s *api.Schema) { s.States[2].Cases[0].Mask.Hi = 1 }},
		{"a mask of the last case", func(s *api.Schema) { s.States[2].Cases[0].Mask = value.Of(1023) }},
		{"a value without its mask", func(s *api.Schema) { s.States[0].Cases[0].Value = value.Of(4) }},
		{"a value with mask 0", func(s *api.Schema) { s.States[0].Cases[1].Value = value.Of(1) }},
		{"a value with a part of its mask", func(s *api.Schema) { s.States[0].Cases[0].Value = value.Of(7) }},
		{"a value that is more than its mask, above 64 bits", func(s *api.Schema) {
			s.Fields[4].Bits, s.States[2].Cases[0].Value = 128, api.Value{Hi: 1, Lo: 511}
		}},
		{"a constant to add", func(s *api.Schema) { s.Actions[1].Body[2].Src.Value = value.Of(256) }},
		{"a constant to set", func(s *api.Schema) {
			s.Actions[1].Body[1].Src = api.Operand{Kind: api.FromConst, Value: value.Left(value.Of(1), 32)}
		}},
		{"a constant to combine", func(s *api.Schema) {
			s.Actions[1].Body[3].Src = api.Operand{Kind: api.FromConst, Value: api.Value{Hi: 1}}
		}},
		{"a constant to forward", func(s *api.Schema) { s.Actions[1].Body[6].Src.Value = value.Of(65536) }},
		{"a field to combine", func(s *api.Schema) { s.Actions[1].Body[3].Dst, s.Actions[1].Body[3].Src.N = 4, 5 }},
		{"a field to add", func(s *api.Schema) { s.Actions[1].Body[2].Src = api.Operand{Kind: api.FromField, N: 5} }},
		{"a field to forward", func(s *api.Schema) { s.Actions[1].Body[7].Src.N = 3 }},
		{"a field of 17 bits to forward", func(s *api.Schema) { s.Fields[4].Bits, s.Actions[1].Body[7].Src.N = 17, 5 }},
		{"a parameter to forward", func(s *api.Schema) { s.Actions[1].Body[0].Src.N = 0 }},
		{"a parameter to set", func(s *api.Schema) { s.Actions[1].Body[1].Dst = 7 }},
		{"a parameter of 17 bits to forward", func(s *api.Schema) { s.Actions[1].Params[1].Bits = 17; s.Refs = nil }},
		{"too few default arguments", func(s *api.Schema) { s.Tables[0].DefaultArgs = s.Tables[0].DefaultArgs[:1] }},
		{"no default arguments", func(s *api.Schema) { s.Tables[0].DefaultArgs = nil }},
		{"too many default arguments", func(s *api.Schema) { s.Tables[0].DefaultArgs = make([]api.Value, 3) }},
		{"a default argument without a parameter", func(s *api.Schema) { s.Tables[2].DefaultArgs = make([]api.Value, 1) }},
		{"the first default argument", func(s *api.Schema) { s.Tables[0].DefaultArgs[0] = value.Left(value.Of(1), 32) }},
		{"the last default argument", func(s *api.Schema) { s.Tables[0].DefaultArgs[1] = value.Of(65536) }},
		{"too few keys of a grant", func(s *api.Schema) { s.Roles[0].Grants[0].Keys = make([]bool, 2) }},
		{"too many keys of a grant", func(s *api.Schema) { s.Roles[0].Grants[1].Keys = make([]bool, 3) }},
		{"no keys of a grant", func(s *api.Schema) { s.Roles[0].Grants[1].Keys = nil }},
		{"a key that refers with fewer bits", func(s *api.Schema) { s.Tables[0].Keys[0].Field = 7 }},
		{"a key that refers with more bits", func(s *api.Schema) { s.Tables[0].Keys[2].Field = 6 }},
		{"a key to which a key refers with fewer bits", func(s *api.Schema) { s.Tables[1].Keys[0].Field = 5; s.Refs = s.Refs[:1] }},
		{"a key to which a parameter refers with fewer bits", func(s *api.Schema) { s.Tables[1].Keys[0].Field = 5; s.Refs = s.Refs[3:] }},
		{"another parameter that refers", func(s *api.Schema) { s.Refs[3].Param = 1 }},
		{"a parameter of 31 bits that refers", func(s *api.Schema) { s.Actions[1].Params[0].Bits = 31; s.Tables[0].DefaultArgs[0] = api.Value{} }},
	}
}

func cycles() []change {
	return []change{
		{"two tables that refer to each other", func(s *api.Schema) { s.Refs = append(s.Refs, api.Ref{Table: 9, ToTable: 8}) }},
		{"nothing but two tables that refer to each other", func(s *api.Schema) {
			s.Refs = []api.Ref{{Table: 9, ToTable: 8}, {Table: 8, ToTable: 9}}
		}},
		{"a table that refers to itself", func(s *api.Schema) { s.Refs = append(s.Refs, api.Ref{Table: 9, ToTable: 9}) }},
		{"a table that refers to itself by an action", func(s *api.Schema) { s.Refs = []api.Ref{{Table: 8, Action: 11, ToTable: 8}} }},
		{"three tables in a cycle", func(s *api.Schema) {
			s.Refs = []api.Ref{{Table: 9, ToTable: 8}, {Table: 3, Action: 11, ToTable: 9}, {Table: 8, Key: 2, ToTable: 3}}
		}},
		{"a cycle by actions and keys", func(s *api.Schema) {
			s.Refs = append(s.Refs, api.Ref{Table: 3, Action: 11, Param: 1, ToTable: 8, ToKey: 2})
		}},
	}
}
