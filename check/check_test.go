package check

import (
	"math"
	"math/rand"
	"reflect"
	"strconv"
	"testing"

	"matchguard/api"
	"matchguard/value"
)

// P4.1 Check: changes behind which a schema is well-formed.
func TestFine(t *testing.T) {
	for _, c := range fine() {
		if code := Check(after(c)); code != api.OK {
			t.Errorf("%s: %d", c.name, code)
		}
	}
}

// P4.1 Check: the error of schema.Encode, alone and before all others.
func TestNotEncodable(t *testing.T) {
	for _, x := range notEncodable() {
		for _, first := range x.changes {
			if code := Check(after(first)); code != x.code {
				t.Errorf("%s: %d, not %d", first.name, code, x.code)
			}
			for _, later := range clauses() {
				if code := Check(after(later.changes[0], first)); code != x.code {
					t.Errorf("%s behind %s: %d, not %d", first.name, later.changes[0].name, code, x.code)
				}
			}
		}
	}
}

// P4.1 Check: changes that cause an error. The oracle, which the other tests use, agrees with what is written here by hand.
func TestClauses(t *testing.T) {
	for _, x := range clauses() {
		for _, c := range x.changes {
			s := after(c)
			if code := Check(s); code != x.code {
				t.Errorf("%s: %d, not %d", c.name, code, x.code)
			}
			if code := expected(s); code != x.code {
				t.Errorf("%s: the oracle says %d, not %d", c.name, code, x.code)
			}
		}
	}
}

// P4.1 Check, R2: of two errors the one that is listed first, whichever part of the schema it is in.
func TestOrderOfErrors(t *testing.T) {
	all := clauses()
	pairs, first := 0, 0
	for i, x := range all {
		for _, y := range all[i+1:] {
			for _, a := range x.changes {
				for _, b := range y.changes {
					s, ok := together(b, a)
					if !ok {
						continue
					}
					want := expected(s)
					if code := Check(s); code != want {
						t.Fatalf("%s and %s: %d, not %d", a.name, b.name, code, want)
					}
					pairs++
					if want == x.code {
						first++
					}
				}
			}
		}
	}
	// A change may undo another one, but few do.
	if pairs < 10000 || first < pairs*9/10 {
		t.Errorf("%d of %d pairs have the error that is listed first", first, pairs)
	}
}

// together returns sample behind both changes, and whether the first one leaves what the second one changes.
func together(a, b change) (s api.Schema, ok bool) {
	defer func() { ok = recover() == nil }()
	return after(a, b), true
}

// P4.1 Check: all errors at once; without the first one, the next one is returned.
func TestAllErrors(t *testing.T) {
	present := []struct {
		code api.Errno
		do   func(s *api.Schema)
	}{
		{api.ErrLimit, func(s *api.Schema) { s.Tables[1].Restriction = string(make([]byte, 401)) }},
		{api.ErrForm, func(s *api.Schema) { s.Roles[1].Name = "R" }},
		{api.ErrArg, func(s *api.Schema) { s.MaxBatch = 33 }},
		{api.ErrDuplicate, func(s *api.Schema) { s.Roles[1].ID = 3 }},
		{api.ErrKind, func(s *api.Schema) { s.Actions[0].Body[0].Dst = 1 }},
		{api.ErrUnknown, func(s *api.Schema) { s.Stages[0].Header = 77 }},
		{api.ErrKind, func(s *api.Schema) { s.Tables[0].Keys[2].Kind = api.Range }},
		{api.ErrWidth, func(s *api.Schema) { s.Roles[0].Grants[0].Keys = nil }},
		{api.ErrCycle, func(s *api.Schema) { s.Refs = append(s.Refs, api.Ref{Table: 9, ToTable: 8}) }},
		{api.OK, func(s *api.Schema) {}},
	}
	for i, x := range present {
		s := sample()
		for _, y := range present[i:] {
			y.do(&s)
		}
		if code := Check(s); code != x.code {
			t.Errorf("errors from %d on: %d, not %d", i+1, code, x.code)
		}
	}
}

// P4.1 Check: schemas with one to four random changes, against the oracle.
func TestRandomChanges(t *testing.T) {
	codes := map[api.Errno]int{}
	for seed := range int64(30000) {
		r := rand.New(rand.NewSource(seed))
		s := sample()
		for range 1 + r.Intn(4) {
			mutate(r, reflect.ValueOf(&s).Elem())
		}
		want := expected(s)
		codes[want]++
		if code := Check(s); code != want {
			t.Fatalf("seed %d: %d, not %d: %+v", seed, code, want, s)
		}
	}
	for _, code := range []api.Errno{api.OK, api.ErrLimit, api.ErrForm, api.ErrArg, api.ErrDuplicate, api.ErrKind, api.ErrUnknown, api.ErrWidth, api.ErrCycle} {
		if codes[code] < 5 {
			t.Errorf("the changes are not diverse enough: %v", codes)
		}
	}
}

// mutate changes something in v.
func mutate(r *rand.Rand, v reflect.Value) {
	switch v.Kind() {
	case reflect.Struct:
		if v.Type() == reflect.TypeFor[api.Value]() {
			pool := []api.Value{{}, value.Of(1), value.Of(3), value.Of(255), value.Of(256), value.Of(65535), value.Of(65536), value.Ones(32), value.Ones(128)}
			v.Set(reflect.ValueOf(pool[r.Intn(len(pool))]))
			return
		}
		mutate(r, v.Field(r.Intn(v.NumField())))
	case reflect.Slice:
		mutateList(r, v)
	case reflect.String:
		pool := []string{"a", "tag", "dst", "ip", "host", "priority", "true", "X", "", "a b", "new", "a\n", "a23456789_a23456789_a2345"}
		v.SetString(pool[r.Intn(len(pool))])
	case reflect.Bool:
		v.SetBool(!v.Bool())
	case reflect.Int:
		pool := []int64{-1, 0, 0, 1, 1, 2, 2, 3, 3, 4, 5, 6, 7, 8, 8, 9, 9, 10, 11, 11, 16, 32, 33, 64, 65, 128, 129, 200, 201, 512, 513, 65534, 65535, 65536}
		v.SetInt(pool[r.Intn(len(pool))])
	}
}

// mutateList changes an element of a list, most of the time, or takes one away, adds one, or changes their order.
func mutateList(r *rand.Rand, v reflect.Value) {
	n := v.Len()
	if n == 0 {
		v.Set(reflect.MakeSlice(v.Type(), 1, 1))
		return
	}
	i := r.Intn(n)
	switch r.Intn(12) {
	case 0:
		v.Set(reflect.AppendSlice(v.Slice3(0, i, i), v.Slice(i+1, n)))
	case 1:
		v.Set(reflect.Append(v.Slice3(0, n, n), v.Index(i)))
	case 2:
		reflect.Swapper(v.Interface())(i, r.Intn(n))
	default:
		mutate(r, v.Index(i))
	}
}

// P4.1 Check: the greatest schema, with as many elements as there may be.
func TestGreatest(t *testing.T) {
	s := greatest()
	if code := Check(s); code != api.OK {
		t.Fatalf("%d", code)
	}
	s.Refs[7] = api.Ref{Table: 107, ToTable: 100}
	if code := Check(s); code != api.ErrCycle {
		t.Errorf("with a cycle of all tables: %d", code)
	}
}

// greatest returns a schema in which table 100 refers to 101, and so on.
func greatest() api.Schema {
	name := func(i int) string { return "n" + strconv.Itoa(i) }
	s := api.Schema{MaxBatch: 32, Budget: 200}
	for i := range api.MaxFields {
		s.Fields = append(s.Fields, api.Field{ID: 1 + i, Name: name(i), Bits: 16})
	}
	for i := range api.MaxHeaders {
		s.Headers = append(s.Headers, api.Header{ID: 100 + i, Name: name(i), Fields: []int{3 + 3*i, 4 + 3*i, 5 + 3*i}})
	}
	for i := range api.MaxStates {
		x := api.State{ID: 100 + i, Header: 100 + i%8, Select: 3 + i, Default: 100 + (i+1)%12}
		for k := range api.MaxCases {
			x.Cases = append(x.Cases, api.Case{Value: value.Of(uint64(k)), Mask: value.Of(7), Next: 100 + k})
		}
		s.States = append(s.States, x)
	}
	for i := range api.MaxActions {
		x := api.Action{ID: 100 + i, Name: name(i)}
		for k := range api.MaxParams {
			x.Params = append(x.Params, api.Param{Name: name(k), Bits: 16})
		}
		for k := range api.MaxPrims {
			x.Body = append(x.Body, api.Prim{Op: api.PrimSet, Dst: 1 + k, Src: api.Operand{Kind: api.FromParam, N: k % 4}})
		}
		s.Actions = append(s.Actions, x)
	}
	for i := range api.MaxTables {
		x := api.Table{ID: 100 + i, Name: name(i), Default: 111, DefaultArgs: make([]api.Value, 4), Size: 64}
		for k := range api.MaxKeys {
			x.Keys = append(x.Keys, api.Key{Name: name(k), Field: 1 + k, Kind: api.Exact})
		}
		for k := range api.MaxActions {
			x.Actions = append(x.Actions, 100+k)
		}
		s.Tables = append(s.Tables, x)
		if i < 7 {
			s.Refs = append(s.Refs, api.Ref{Table: 100 + i, Key: i % 4, ToTable: 101 + i, ToKey: 3})
		}
	}
	s.Refs = append(s.Refs, api.Ref{Table: 100, Action: 111, Param: 3, ToTable: 107})
	for i := range api.MaxStages {
		s.Stages = append(s.Stages, api.Stage{Table: 100 + i%8, Header: 100 + i%8})
	}
	for i := range api.MaxRoles {
		x := api.Role{ID: 100 + i, Name: name(i), Quota: 512}
		for k := range api.MaxTables {
			x.Grants = append(x.Grants, api.Grant{Table: 100 + k, Keys: make([]bool, 4)})
		}
		for k := range api.MaxActions {
			x.Actions = append(x.Actions, 100+k)
		}
		s.Roles = append(s.Roles, x)
	}
	return s
}

// P4.2: whether a schema is well-formed does not depend on names, as long as they are different identifiers.
func TestOtherNames(t *testing.T) {
	for _, x := range append(clauses()[1:], clause{api.OK, fine()}) {
		for _, c := range x.changes {
			s := after(c)
			if outer, inner := names(s); repeatsAny(outer) || repeatsAny(inner) {
				continue
			}
			rename(&s)
			if code := Check(s); code != x.code {
				t.Errorf("%s, with other names: %d, not %d", c.name, code, x.code)
			}
		}
	}
}

func repeatsAny(lists [][]string) bool {
	for _, l := range lists {
		if repeats(l) {
			return true
		}
	}
	return false
}

// rename gives all elements the names a, b, and so on, for each kind anew and in the opposite order.
func rename(s *api.Schema) {
	letter := func(i, n int) string { return string(rune('a' + n - 1 - i)) }
	for i := range s.Fields {
		s.Fields[i].Name = letter(i, len(s.Fields))
	}
	for i := range s.Headers {
		s.Headers[i].Name = letter(i, len(s.Headers))
	}
	for i := range s.Roles {
		s.Roles[i].Name = letter(i, len(s.Roles))
	}
	for i, x := range s.Actions {
		s.Actions[i].Name = letter(i, len(s.Actions))
		for k := range x.Params {
			x.Params[k].Name = letter(k, len(x.Params))
		}
	}
	for i, x := range s.Tables {
		s.Tables[i].Name = letter(i, len(s.Tables))
		for k := range x.Keys {
			x.Keys[k].Name = letter(k, len(x.Keys))
		}
	}
}

// P4.2: whether a schema is well-formed does not depend on the order of roles or references.
func TestOtherOrder(t *testing.T) {
	for _, x := range append(clauses(), clause{api.OK, fine()}) {
		for _, c := range x.changes {
			for seed := range int64(3) {
				r := rand.New(rand.NewSource(seed))
				s := after(c)
				r.Shuffle(len(s.Roles), reflect.Swapper(s.Roles))
				r.Shuffle(len(s.Refs), reflect.Swapper(s.Refs))
				if code := Check(s); code != x.code {
					t.Errorf("%s, in another order: %d, not %d", c.name, code, x.code)
				}
			}
		}
	}
}

// P4.1 TableOf, FieldOf, HeaderOf, StateOf, ActionOf, RoleOf
func TestFind(t *testing.T) {
	finders := []struct {
		name string
		find func(s api.Schema, id int) int
		ids  []int // of sample
	}{
		{"FieldOf", FieldOf, []int{1, 2, 3, 4, 5, 6, 7}},
		{"HeaderOf", HeaderOf, []int{3, 8}},
		{"StateOf", StateOf, []int{3, 9, 10}},
		{"ActionOf", ActionOf, []int{10, 11, 3}},
		{"TableOf", TableOf, []int{8, 9, 3}},
		{"RoleOf", RoleOf, []int{3, 4}},
	}
	for _, f := range finders {
		for _, id := range []int{math.MinInt, -1, 0, 1, 2, 3, 4, 5, 6, 7, 8, 9, 10, 11, 12, 77, 65535, 65536 + 3, 1<<32 + 3, math.MaxInt} {
			want := -1
			for i, x := range f.ids {
				if x == id {
					want = i
				}
			}
			if got := f.find(sample(), id); got != want {
				t.Errorf("%s(%d) = %d, not %d", f.name, id, got, want)
			}
			if got := f.find(api.Schema{}, id); got != -1 {
				t.Errorf("%s(%d) = %d in the empty schema", f.name, id, got)
			}
		}
	}
}

// P4.1: of several elements with an ID the first one is found, also in a schema that is not well-formed.
func TestFindFirst(t *testing.T) {
	s := api.Schema{
		Fields:  []api.Field{{ID: 4}, {ID: -1}, {ID: -1}, {ID: 0}},
		Headers: []api.Header{{ID: 4}, {ID: -1}, {ID: -1}, {ID: 0}},
		States:  []api.State{{ID: 4}, {ID: -1}, {ID: -1}, {ID: 0}},
		Actions: []api.Action{{ID: 4}, {ID: -1}, {ID: -1}, {ID: 0}},
		Tables:  []api.Table{{ID: 4}, {ID: -1}, {ID: -1}, {ID: 0}},
		Roles:   []api.Role{{ID: 4}, {ID: -1}, {ID: -1}, {ID: 0}},
	}
	for i, find := range []func(s api.Schema, id int) int{FieldOf, HeaderOf, StateOf, ActionOf, TableOf, RoleOf} {
		if find(s, 4) != 0 || find(s, -1) != 1 || find(s, 0) != 3 || find(s, 1) != -1 {
			t.Errorf("finder %d: %d, %d, %d, %d", i, find(s, 4), find(s, -1), find(s, 0), find(s, 1))
		}
	}
}

// R3: no function changes its argument.
func TestArguments(t *testing.T) {
	for _, x := range append(clauses(), clause{api.OK, fine()}) {
		for _, c := range x.changes {
			s := after(c)
			Check(s)
			Order(s)
			TableOf(s, 3)
			if !reflect.DeepEqual(s, after(c)) {
				t.Errorf("%s: the argument has changed", c.name)
			}
		}
	}
}

// R4: the result of a call does not depend on earlier calls.
func TestAgain(t *testing.T) {
	for _, x := range clauses() {
		for _, c := range x.changes {
			if Check(after(c)) != x.code || Check(sample()) != api.OK {
				t.Errorf("%s: another result", c.name)
			}
		}
	}
}
