package schema

import (
	"math/big"
	"reflect"
	"strconv"
	"strings"

	"matchguard/api"
)

// part is an element of an encoding: the field of the type and what is written of it. That is "number", "small" (one byte), "truth", "value", "text", or "[]" and what is written of an element of a list; most is the limit of a text or list.
type part struct {
	field string
	what  string
	most  int
}

// chapter is the list of section "Encoding": the parts of each type.
var chapter = map[string][]part{
	"Schema": {
		{"MaxBatch", "number", 0}, {"Budget", "number", 0},
		{"Fields", "[]Field", api.MaxFields}, {"Headers", "[]Header", api.MaxHeaders}, {"States", "[]State", api.MaxStates},
		{"Actions", "[]Action", api.MaxActions}, {"Tables", "[]Table", api.MaxTables}, {"Stages", "[]Stage", api.MaxStages},
		{"Roles", "[]Role", api.MaxRoles}, {"Refs", "[]Ref", api.MaxRefs},
	},
	"Field":  {{"ID", "number", 0}, {"Name", "text", api.MaxName}, {"Bits", "small", 0}},
	"Header": {{"ID", "number", 0}, {"Name", "text", api.MaxName}, {"Fields", "[]number", api.MaxFields}},
	"State":  {{"ID", "number", 0}, {"Header", "number", 0}, {"Select", "number", 0}, {"Cases", "[]Case", api.MaxCases}, {"Default", "number", 0}},
	"Case":   {{"Value", "value", 0}, {"Mask", "value", 0}, {"Next", "number", 0}},
	"Action": {
		{"ID", "number", 0}, {"Name", "text", api.MaxName}, {"Params", "[]Param", api.MaxParams},
		{"Body", "[]Prim", api.MaxPrims}, {"Restriction", "text", api.MaxText},
	},
	"Param": {{"Name", "text", api.MaxName}, {"Bits", "small", 0}},
	"Prim":  {{"Op", "small", 0}, {"Dst", "number", 0}, {"Src", "Operand", 0}},
	"Operand": {
		{"Kind", "small", 0}, {"N", "number", 0}, {"Value", "value", 0},
	},
	"Table": {
		{"ID", "number", 0}, {"Name", "text", api.MaxName}, {"Keys", "[]Key", api.MaxKeys},
		{"Actions", "[]number", api.MaxActions}, {"Default", "number", 0}, {"DefaultArgs", "[]value", api.MaxParams},
		{"Size", "number", 0}, {"Restriction", "text", api.MaxText},
	},
	"Key":   {{"Name", "text", api.MaxName}, {"Field", "number", 0}, {"Kind", "small", 0}},
	"Stage": {{"Table", "number", 0}, {"Header", "number", 0}},
	"Role": {
		{"ID", "number", 0}, {"Name", "text", api.MaxName}, {"Grants", "[]Grant", api.MaxTables},
		{"Actions", "[]number", api.MaxActions}, {"Quota", "number", 0}, {"Audit", "truth", 0},
	},
	"Grant": {{"Table", "number", 0}, {"Read", "truth", 0}, {"Write", "truth", 0}, {"Keys", "[]truth", api.MaxKeys}},
	"Ref": {
		{"Table", "number", 0}, {"Key", "small", 0}, {"Action", "number", 0},
		{"Param", "small", 0}, {"ToTable", "number", 0}, {"ToKey", "small", 0},
	},
}

// place is a number, truth value, value, text or list of a schema.
type place struct {
	path string
	part part
	v    reflect.Value
}

// places returns all places of a schema, in the order of the encoding, each list before its elements.
func places(s *api.Schema) []place {
	return placesOf("", part{"", "Schema", 0}, reflect.ValueOf(s).Elem())
}

func placesOf(path string, p part, v reflect.Value) []place {
	if inner, ok := strings.CutPrefix(p.what, "[]"); ok {
		all := []place{{path, p, v}}
		for i := range v.Len() {
			all = append(all, placesOf(path+"["+strconv.Itoa(i)+"]", part{"", inner, 0}, v.Index(i))...)
		}
		return all
	}
	parts, ok := chapter[p.what]
	if !ok {
		return []place{{path, p, v}}
	}
	var all []place
	for _, inner := range parts {
		all = append(all, placesOf(path+"."+inner.field, inner, v.FieldByName(inner.field))...)
	}
	return all
}

// fill makes every list have n elements (or as many as it may), and calls leaf for everything else.
func fill(p part, v reflect.Value, n func(most int) int, leaf func(p part, v reflect.Value)) {
	if inner, ok := strings.CutPrefix(p.what, "[]"); ok {
		length := n(p.most)
		v.Set(reflect.MakeSlice(v.Type(), length, length))
		for i := range length {
			fill(part{"", inner, 0}, v.Index(i), n, leaf)
		}
		return
	}
	parts, ok := chapter[p.what]
	if !ok {
		leaf(p, v)
		return
	}
	for _, inner := range parts {
		fill(inner, v.FieldByName(inner.field), n, leaf)
	}
}

// full returns a schema whose lists have n elements (or as many as they may), and in which neighbours differ.
func full(n int) api.Schema {
	var s api.Schema
	i := 0
	fill(part{"", "Schema", 0}, reflect.ValueOf(&s).Elem(), func(most int) int { return min(n, most) }, func(p part, v reflect.Value) {
		i++
		switch p.what {
		case "number":
			v.SetInt(int64(i*259%65536 + 1))
		case "small":
			v.SetInt(int64(i % 256))
		case "truth":
			v.SetBool(i%3 == 0)
		case "value":
			v.Set(reflect.ValueOf(api.Value{Hi: uint64(i % 2), Lo: uint64(i * 77)}))
		case "text":
			v.SetString("t " + strconv.Itoa(i))
		}
	})
	return s
}

// expected encodes a schema as the chapter says, without package wire.
func expected(s api.Schema) ([]byte, api.Errno) {
	var b []byte
	var long, form, arg bool
	for _, p := range places(&s) {
		switch p.part.what {
		case "number":
			arg = arg || p.v.Int() < 0 || p.v.Int() > 65535
			b = append(b, byte(p.v.Int()>>8), byte(p.v.Int()))
		case "small":
			arg = arg || p.v.Int() < 0 || p.v.Int() > 255
			b = append(b, byte(p.v.Int()))
		case "truth":
			b = append(b, map[bool]byte{true: 1}[p.v.Bool()])
		case "value":
			x := canonical(p.v.Interface().(api.Value))
			b = append(append(b, byte(len(x))), x...)
		case "text":
			long = long || p.v.Len() > p.part.most
			form = form || strings.IndexFunc(p.v.String(), func(r rune) bool { return r < ' ' || r > '~' }) >= 0
			b = append(append(b, byte(p.v.Len()>>8), byte(p.v.Len())), p.v.String()...)
		default:
			long = long || p.v.Len() > p.part.most
			b = append(b, byte(p.v.Len()>>8), byte(p.v.Len()))
		}
	}
	switch {
	case long:
		return nil, api.ErrLimit
	case form:
		return nil, api.ErrForm
	case arg:
		return nil, api.ErrArg
	case len(b) > 8000:
		return nil, api.ErrLimit
	}
	return b, api.OK
}

// width returns how many bytes a place has in an encoding, a list without its elements.
func width(p place) int {
	switch p.part.what {
	case "small", "truth":
		return 1
	case "value":
		return 1 + len(canonical(p.v.Interface().(api.Value)))
	case "text":
		return 2 + p.v.Len()
	}
	return 2
}

// canonical returns the canonical byte string of a value.
func canonical(v api.Value) []byte {
	n := new(big.Int).SetUint64(v.Hi)
	n.Lsh(n, 64).Or(n, new(big.Int).SetUint64(v.Lo))
	if n.Sign() == 0 {
		return []byte{0}
	}
	return n.Bytes()
}

// source reads an encoding as the chapter says, without package wire; its error is raised by a panic.
type source struct{ b []byte }

// parsed decodes a byte string as the chapter says.
func parsed(b []byte) (s api.Schema, code api.Errno) {
	if len(b) > 8000 {
		return api.Schema{}, api.ErrLimit
	}
	defer func() {
		if e, ok := recover().(api.Errno); ok {
			s, code = api.Schema{}, e
		}
	}()
	from := &source{b}
	from.read(part{"", "Schema", 0}, reflect.ValueOf(&s).Elem())
	if len(from.b) > 0 {
		return api.Schema{}, api.ErrForm
	}
	return s, api.OK
}

func (from *source) take(n int) []byte {
	if len(from.b) < n {
		panic(api.ErrShort)
	}
	x := from.b[:n]
	from.b = from.b[n:]
	return x
}

func (from *source) length(most int) int {
	x := from.take(2)
	if n := int(x[0])<<8 | int(x[1]); n <= most {
		return n
	}
	panic(api.ErrLimit)
}

func (from *source) read(p part, v reflect.Value) {
	if inner, ok := strings.CutPrefix(p.what, "[]"); ok {
		n := from.length(p.most)
		v.Set(reflect.MakeSlice(v.Type(), n, n))
		for i := range n {
			from.read(part{"", inner, 0}, v.Index(i))
		}
		return
	}
	for _, inner := range chapter[p.what] {
		from.read(inner, v.FieldByName(inner.field))
	}
	switch p.what {
	case "number":
		x := from.take(2)
		v.SetInt(int64(x[0])<<8 | int64(x[1]))
	case "small":
		v.SetInt(int64(from.take(1)[0]))
	case "truth":
		x := from.take(1)[0]
		if x > 1 {
			panic(api.ErrForm)
		}
		v.SetBool(x == 1)
	case "value":
		v.Set(reflect.ValueOf(from.value()))
	case "text":
		x := from.take(from.length(p.most))
		for _, c := range x {
			if c < 32 || c > 126 {
				panic(api.ErrForm)
			}
		}
		v.SetString(string(x))
	}
}

func (from *source) value() api.Value {
	n := int(from.take(1)[0])
	if n < 1 || n > 16 {
		panic(api.ErrForm)
	}
	x := from.take(n)
	if n > 1 && x[0] == 0 {
		panic(api.ErrValue)
	}
	m := new(big.Int).SetBytes(x)
	lo := new(big.Int).SetUint64(1<<64 - 1)
	lo.And(lo, m)
	return api.Value{Hi: m.Rsh(m, 64).Uint64(), Lo: lo.Uint64()}
}
