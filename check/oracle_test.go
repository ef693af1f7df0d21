package check

import (
	"math/big"
	"regexp"

	"matchguard/api"
	"matchguard/schema"
)

// expected is Check as the chapter says it, sentence by sentence, without maps and without package value.
func expected(s api.Schema) api.Errno {
	if _, code := schema.Encode(s); code != api.OK {
		return code
	}
	for _, rule := range []struct {
		broken func(s api.Schema) bool
		code   api.Errno
	}{
		{badName, api.ErrForm}, {badNumber, api.ErrArg}, {badTwice, api.ErrDuplicate}, {badKind, api.ErrKind}, {badID, api.ErrUnknown},
		{badRefKind, api.ErrKind}, {badWidth, api.ErrWidth}, {badCycle, api.ErrCycle},
	} {
		if rule.broken(s) {
			return rule.code
		}
	}
	return api.OK
}

var identifier = regexp.MustCompile(`^[a-z][a-z0-9_]*$`)
var reserved = regexp.MustCompile(`^(priority|true|false)$`)

// names returns the names of each kind of elements that must differ; the last lists are those of parameters and keys.
func names(s api.Schema) (outer, inner [][]string) {
	outer = make([][]string, 5)
	for _, x := range s.Fields {
		outer[0] = append(outer[0], x.Name)
	}
	for _, x := range s.Headers {
		outer[1] = append(outer[1], x.Name)
	}
	for _, x := range s.Actions {
		outer[2] = append(outer[2], x.Name)
		var l []string
		for _, p := range x.Params {
			l = append(l, p.Name)
		}
		inner = append(inner, l)
	}
	for _, x := range s.Tables {
		outer[3] = append(outer[3], x.Name)
		var l []string
		for _, k := range x.Keys {
			l = append(l, k.Name)
		}
		inner = append(inner, l)
	}
	for _, x := range s.Roles {
		outer[4] = append(outer[4], x.Name)
	}
	return outer, inner
}

// ids returns the IDs of fields, headers, states, actions, tables and roles.
func ids(s api.Schema) [6][]int {
	var l [6][]int
	for _, x := range s.Fields {
		l[0] = append(l[0], x.ID)
	}
	for _, x := range s.Headers {
		l[1] = append(l[1], x.ID)
	}
	for _, x := range s.States {
		l[2] = append(l[2], x.ID)
	}
	for _, x := range s.Actions {
		l[3] = append(l[3], x.ID)
	}
	for _, x := range s.Tables {
		l[4] = append(l[4], x.ID)
	}
	for _, x := range s.Roles {
		l[5] = append(l[5], x.ID)
	}
	return l
}

func badName(s api.Schema) bool {
	outer, inner := names(s)
	for i, l := range append(outer, inner...) {
		for _, n := range l {
			if !identifier.MatchString(n) || i >= len(outer) && reserved.MatchString(n) {
				return true
			}
		}
	}
	return false
}

func badNumber(s api.Schema) bool {
	bad := s.MaxBatch < 1 || s.MaxBatch > 32 || s.Budget < 1 || s.Budget > 200
	for _, l := range ids(s) {
		for _, id := range l {
			bad = bad || id < 1 || id > 65534
		}
	}
	for _, x := range s.Fields {
		bad = bad || x.Bits < 1 || x.Bits > 128
	}
	for _, x := range s.Headers {
		bad = bad || len(x.Fields) == 0
	}
	for _, x := range s.Actions {
		for _, p := range x.Params {
			bad = bad || p.Bits < 1 || p.Bits > 128
		}
	}
	for _, x := range s.Tables {
		bad = bad || x.Size < 1 || x.Size > 64 || len(x.Keys) == 0
	}
	for _, x := range s.Roles {
		bad = bad || x.Quota > 512
	}
	return bad
}

// repeats reports whether two elements of a list are equal.
func repeats[T comparable](l []T) bool {
	for i := range l {
		for k := range i {
			if l[i] == l[k] {
				return true
			}
		}
	}
	return false
}

func badTwice(s api.Schema) bool {
	bad := false
	for _, l := range ids(s) {
		bad = bad || repeats(l)
	}
	outer, inner := names(s)
	for _, l := range append(outer, inner...) {
		bad = bad || repeats(l)
	}
	var inHeaders []int
	for _, x := range s.Headers {
		inHeaders = append(inHeaders, x.Fields...)
	}
	bad = bad || repeats(inHeaders)
	for _, x := range s.Tables {
		bad = bad || repeats(x.Actions)
	}
	for _, x := range s.Roles {
		var granted []int
		for _, g := range x.Grants {
			granted = append(granted, g.Table)
		}
		bad = bad || repeats(x.Actions) || repeats(granted)
	}
	return bad
}

// oneOf reports whether x is an element of l.
func oneOf(x int, l ...int) bool {
	for _, y := range l {
		if x == y {
			return true
		}
	}
	return false
}

func badKind(s api.Schema) bool {
	bad := false
	for _, a := range s.Actions {
		for _, p := range a.Body {
			o := p.Src
			bad = bad || p.Op < 1 || p.Op > 7
			bad = bad || oneOf(p.Op, 6, 7) && p.Dst != 0
			if oneOf(p.Op, 4, 5, 6) {
				bad = bad || o.Kind != 0 || o.N != 0 || o.Value.Hi != 0 || o.Value.Lo != 0
			} else {
				bad = bad || o.Kind < 1 || o.Kind > 3 || o.Kind == 1 && o.N != 0 || o.Kind != 1 && (o.Value.Hi != 0 || o.Value.Lo != 0)
			}
		}
	}
	for _, x := range s.Tables {
		prefixes := 0
		for _, k := range x.Keys {
			bad = bad || k.Kind < 1 || k.Kind > 4
			if k.Kind == 2 {
				prefixes++
			}
		}
		bad = bad || prefixes > 1
	}
	for _, x := range s.States {
		bad = bad || x.Select == 0 && len(x.Cases) > 0
	}
	for _, r := range s.Refs {
		bad = bad || r.Action == 0 && r.Param != 0 || r.Action != 0 && r.Key != 0
	}
	return bad
}

// fieldBits returns the bits of a field.
func fieldBits(s api.Schema, id int) int {
	for _, x := range s.Fields {
		if x.ID == id {
			return x.Bits
		}
	}
	return 0
}

// tableOf returns a table, or one without keys and actions.
func tableOf(s api.Schema, id int) api.Table {
	for _, x := range s.Tables {
		if x.ID == id {
			return x
		}
	}
	return api.Table{}
}

// paramsOf returns the parameters of an action.
func paramsOf(s api.Schema, id int) []api.Param {
	for _, x := range s.Actions {
		if x.ID == id {
			return x.Params
		}
	}
	return nil
}

func badID(s api.Schema) bool {
	l := ids(s)
	fields, headers, states, actions, tables := l[0], l[1], l[2], l[3], l[4]
	bad := !oneOf(1, fields...) || !oneOf(2, fields...)
	for _, x := range s.Headers {
		for _, id := range x.Fields {
			bad = bad || !oneOf(id, fields...)
		}
	}
	next := append([]int{0, 65535}, states...)
	for _, x := range s.States {
		bad = bad || x.Header != 0 && !oneOf(x.Header, headers...) || x.Select != 0 && !oneOf(x.Select, fields...) || !oneOf(x.Default, next...)
		for _, c := range x.Cases {
			bad = bad || !oneOf(c.Next, next...)
		}
	}
	for _, a := range s.Actions {
		for _, p := range a.Body {
			bad = bad || oneOf(p.Op, 1, 2, 3) && !oneOf(p.Dst, fields...) || oneOf(p.Op, 4, 5) && !oneOf(p.Dst, headers...)
			bad = bad || p.Src.Kind == 2 && !oneOf(p.Src.N, fields...) || p.Src.Kind == 3 && p.Src.N >= len(a.Params)
		}
	}
	for _, x := range s.Tables {
		for _, k := range x.Keys {
			bad = bad || !oneOf(k.Field, fields...)
		}
		for _, id := range x.Actions {
			bad = bad || !oneOf(id, actions...)
		}
		bad = bad || !oneOf(x.Default, x.Actions...)
	}
	for _, x := range s.Stages {
		bad = bad || !oneOf(x.Table, tables...) || x.Header != 0 && !oneOf(x.Header, headers...)
	}
	for _, x := range s.Roles {
		for _, g := range x.Grants {
			bad = bad || !oneOf(g.Table, tables...)
		}
		for _, id := range x.Actions {
			bad = bad || !oneOf(id, actions...)
		}
	}
	for _, r := range s.Refs {
		bad = bad || badRefID(s, r)
	}
	return bad
}

func badRefID(s api.Schema, r api.Ref) bool {
	tables := ids(s)[4]
	bad := !oneOf(r.Table, tables...) || !oneOf(r.ToTable, tables...)
	bad = bad || r.ToKey >= len(tableOf(s, r.ToTable).Keys)
	bad = bad || r.Action == 0 && r.Key >= len(tableOf(s, r.Table).Keys)
	bad = bad || r.Action != 0 && !oneOf(r.Action, tableOf(s, r.Table).Actions...)
	return bad || r.Action != 0 && r.Param >= len(paramsOf(s, r.Action))
}

func badRefKind(s api.Schema) bool {
	bad := false
	for _, r := range s.Refs {
		bad = bad || tableOf(s, r.ToTable).Keys[r.ToKey].Kind != 1
		bad = bad || r.Action == 0 && tableOf(s, r.Table).Keys[r.Key].Kind != 1
	}
	return bad
}

// number returns a value as a big number.
func number(v api.Value) *big.Int {
	n := new(big.Int).SetUint64(v.Hi)
	return n.Lsh(n, 64).Or(n, new(big.Int).SetUint64(v.Lo))
}

func tooBig(v api.Value, bits int) bool {
	return number(v).Cmp(new(big.Int).Lsh(big.NewInt(1), uint(bits))) >= 0
}

func badWidth(s api.Schema) bool {
	bad := fieldBits(s, 1) != 16 || fieldBits(s, 2) != 16
	for _, x := range s.Headers {
		sum := 0
		for _, id := range x.Fields {
			bad = bad || id == 1 || id == 2
			sum += fieldBits(s, id)
		}
		bad = bad || sum%8 != 0 || sum > 512
	}
	for _, x := range s.States {
		for _, c := range x.Cases {
			bad = bad || tooBig(c.Value, fieldBits(s, x.Select)) || tooBig(c.Mask, fieldBits(s, x.Select))
			bad = bad || new(big.Int).AndNot(number(c.Value), number(c.Mask)).Sign() != 0
		}
	}
	for _, a := range s.Actions {
		for _, p := range a.Body {
			bad = bad || oneOf(p.Op, 1, 2, 3) && badOperand(s, a, p.Src, fieldBits(s, p.Dst)) || p.Op == 7 && badOperand(s, a, p.Src, 16)
		}
	}
	for _, x := range s.Tables {
		params := paramsOf(s, x.Default)
		bad = bad || len(params) != len(x.DefaultArgs)
		for i, v := range x.DefaultArgs {
			bad = bad || tooBig(v, params[min(i, len(params)-1)].Bits)
		}
	}
	for _, x := range s.Roles {
		for _, g := range x.Grants {
			bad = bad || len(g.Keys) != len(tableOf(s, g.Table).Keys)
		}
	}
	for _, r := range s.Refs {
		bad = bad || badRefWidth(s, r)
	}
	return bad
}

func badOperand(s api.Schema, a api.Action, o api.Operand, bits int) bool {
	return o.Kind == 1 && tooBig(o.Value, bits) || o.Kind == 2 && fieldBits(s, o.N) > bits || o.Kind == 3 && a.Params[o.N].Bits > bits
}

func badRefWidth(s api.Schema, r api.Ref) bool {
	bits := fieldBits(s, tableOf(s, r.ToTable).Keys[r.ToKey].Field)
	if r.Action != 0 {
		return paramsOf(s, r.Action)[r.Param].Bits != bits
	}
	return fieldBits(s, tableOf(s, r.Table).Keys[r.Key].Field) != bits
}

// badCycle takes away references that lead to a table from which none goes on; if some are left, they have a cycle.
func badCycle(s api.Schema) bool {
	left := append([]api.Ref(nil), s.Refs...)
	for {
		var more []api.Ref
		for _, r := range left {
			for _, on := range left {
				if on.Table == r.ToTable {
					more = append(more, r)
					break
				}
			}
		}
		if len(more) == len(left) {
			return len(left) > 0
		}
		left = more
	}
}
