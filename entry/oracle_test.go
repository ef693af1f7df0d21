package entry

import (
	"fmt"
	"math"
	"math/rand"
	"slices"
	"strings"

	"matchguard/api"
	"matchguard/value"
)

// The oracle of these tests computes with values as texts of 128 digits 0 and 1, the highest bit first.

const zeros = "00000000000000000000000000000000000000000000000000000000000000000000000000000000000000000000000000000000000000000000000000000000"

func textOf(v api.Value) string {
	return fmt.Sprintf("%064b%064b", v.Hi, v.Lo)
}

// of and power return n and 2^n.
func of(n uint64) api.Value { return api.Value{Lo: n} }
func power(n int) api.Value {
	if n >= 64 {
		return api.Value{Hi: 1 << (n - 64)}
	}
	return api.Value{Lo: 1 << n}
}

// below returns 2^n - 1.
func below(n int) api.Value { return value.Sub(power(n), of(1), 128) }

var ones = api.Value{Hi: math.MaxUint64, Lo: math.MaxUint64}

// exact, prefix, ternary and between are matches, none is one that matches everything.
func exact(n uint64) api.Match { return api.Match{Present: true, Value: of(n)} }
func prefix(n uint64, length int) api.Match {
	return api.Match{Present: true, Value: of(n), Prefix: length}
}
func ternary(n, mask uint64) api.Match {
	return api.Match{Present: true, Value: of(n), Mask: of(mask)}
}
func between(low, high uint64) api.Match {
	return api.Match{Present: true, Value: of(low), High: of(high)}
}
func none() api.Match { return api.Match{} }

// all kinds of keys
var kinds = []int{api.Exact, api.LPM, api.Ternary, api.Range}

// sample is a schema with tables of all kinds of keys. None of its IDs is an index.
func sample() api.Schema {
	return api.Schema{
		Fields: []api.Field{{ID: 1, Name: "in", Bits: 16}, {ID: 2, Name: "out", Bits: 16}, {ID: 3, Name: "tag", Bits: 3}, {ID: 4, Name: "dst", Bits: 32}, {ID: 5, Name: "all", Bits: 128}, {ID: 6, Name: "one", Bits: 1}, {ID: 7, Name: "odd", Bits: 65}},
		Actions: []api.Action{
			{ID: 20, Name: "plain"},
			{ID: 21, Name: "bound", Params: []api.Param{{Name: "p", Bits: 32}, {Name: "q", Bits: 128}, {Name: "r", Bits: 1}}, Restriction: "p < q"},
			{ID: 22, Name: "never", Restriction: "false"},
			{ID: 23, Name: "odd", Params: []api.Param{{Name: "p", Bits: 65}}},
		},
		Tables: []api.Table{
			{ID: 10, Name: "host", Keys: []api.Key{{Name: "a", Field: 4, Kind: api.Exact}}, Actions: []int{20, 22}, Default: 20, Size: 8},
			{ID: 11, Name: "route", Keys: []api.Key{{Name: "m", Field: 3, Kind: api.Exact}, {Name: "d", Field: 4, Kind: api.LPM}}, Actions: []int{21, 20}, Default: 20, Size: 8, Restriction: "d::prefix_length >= 8 -> d::value != 0"},
			{ID: 12, Name: "mixed", Keys: []api.Key{{Name: "t", Field: 3, Kind: api.Ternary}, {Name: "r", Field: 5, Kind: api.Range}, {Name: "e", Field: 7, Kind: api.Exact}, {Name: "l", Field: 5, Kind: api.LPM}}, Actions: []int{23, 22, 21, 20}, Default: 20, Size: 8, Restriction: "priority < 100"},
			{ID: 13, Name: "span", Keys: []api.Key{{Name: "r", Field: 3, Kind: api.Range}}, Actions: []int{20}, Default: 20, Size: 8},
			{ID: 14, Name: "cube", Keys: []api.Key{{Name: "t", Field: 3, Kind: api.Ternary}}, Actions: []int{20}, Default: 20, Size: 8},
			{ID: 15, Name: "tree", Keys: []api.Key{{Name: "l", Field: 3, Kind: api.LPM}}, Actions: []int{20}, Default: 20, Size: 8},
		},
		MaxBatch: 4, Budget: 50,
	}
}

// single is a schema with a table 10 that has one key of a Kind and bits.
func single(kind, bits int) api.Schema {
	return withKeys([]int{kind}, []int{bits})
}

// withKeys is a schema with a table 10 whose keys have these Kinds and bits.
func withKeys(kinds, bits []int) api.Schema {
	s := api.Schema{
		Fields:   []api.Field{{ID: 1, Name: "in", Bits: 16}, {ID: 2, Name: "out", Bits: 16}},
		Actions:  []api.Action{{ID: 20, Name: "plain"}},
		Tables:   []api.Table{{ID: 9, Name: "other", Keys: []api.Key{{Name: "k", Field: 1, Kind: api.Exact}}, Actions: []int{20}, Default: 20, Size: 1}, {ID: 10, Name: "t", Actions: []int{20}, Default: 20, Size: 1}},
		MaxBatch: 1, Budget: 1,
	}
	for i, kind := range kinds {
		name := "f" + string(rune('a'+i))
		s.Fields = append(s.Fields, api.Field{ID: 100 - i, Name: name, Bits: bits[i]})
		s.Tables[1].Keys = append(s.Tables[1].Keys, api.Key{Name: name, Field: 100 - i, Kind: kind})
	}
	return s
}

// expectedMatch returns the error of a match for a key.
func expectedMatch(m api.Match, kind, bits int) api.Errno {
	low, mask, high := textOf(m.Value), textOf(m.Mask), textOf(m.High)
	used := map[int]string{api.Exact: "value", api.LPM: "value prefix", api.Ternary: "value mask", api.Range: "value high"}[kind]
	if !m.Present {
		if kind == api.Exact {
			return api.ErrKind
		}
		used = ""
	}
	for part, given := range map[string]bool{"value": low != zeros, "mask": mask != zeros, "prefix": m.Prefix != 0, "high": high != zeros} {
		if given && !strings.Contains(used, part) {
			return api.ErrKind
		}
	}
	if m.Present && !expectedFit(low, mask, high, m.Prefix, kind, bits) {
		return api.ErrValue
	}
	return api.OK
}

// expectedFit reports whether the parts of a match that is Present are canonical.
func expectedFit(low, mask, high string, prefix, kind, bits int) bool {
	above := 128 - bits
	if strings.Contains(low[:above]+mask[:above]+high[:above], "1") {
		return false
	}
	switch kind {
	case api.LPM:
		return prefix >= 1 && prefix <= bits && !strings.Contains(low[above+prefix:], "1")
	case api.Ternary:
		for i := range low {
			if low[i] == '1' && mask[i] == '0' {
				return false
			}
		}
		return mask != zeros
	case api.Range:
		return low <= high && (low != zeros || strings.Contains(high[above:], "0"))
	}
	return true
}

// expectedKey returns the error of the key of an entry, whose table is the one of withKeys.
func expectedKey(s api.Schema, e api.Entry) api.Errno {
	keys := s.Tables[1].Keys
	if e.Table != 10 && e.Table != 9 {
		return api.ErrUnknown
	}
	if e.Table == 9 {
		keys = s.Tables[0].Keys
	}
	if len(e.Matches) != len(keys) {
		return api.ErrKind
	}
	least, most := 0, 0
	for i, k := range keys {
		bits := 16
		if k.Field != 1 {
			bits = s.Fields[2+100-k.Field].Bits
		}
		if code := expectedMatch(e.Matches[i], k.Kind, bits); code != api.OK {
			return code
		}
		if k.Kind == api.Ternary || k.Kind == api.Range {
			least, most = 1, 65535
		}
	}
	if e.Priority < least || e.Priority > most {
		return api.ErrPriority
	}
	return api.OK
}

// expectedCovers reports whether a match covers a value.
func expectedCovers(m api.Match, kind, bits int, v api.Value) bool {
	if !slices.Contains(kinds, kind) {
		return false
	}
	if !m.Present {
		return true
	}
	low, mask, high, at := textOf(m.Value), textOf(m.Mask), textOf(m.High), textOf(v)
	switch kind {
	case api.Exact:
		return at == low
	case api.LPM:
		first := 128 - bits
		end := first + min(max(m.Prefix, 0), bits)
		return at[first:end] == low[first:end]
	case api.Ternary:
		for i := range at {
			if mask[i] == '1' && at[i] != low[i] || mask[i] == '0' && low[i] == '1' {
				return false
			}
		}
		return true
	}
	return low <= at && at <= high
}

// chooser makes random parts of entries.
type chooser struct{ *rand.Rand }

func newChooser(seed int64) chooser { return chooser{rand.New(rand.NewSource(seed))} }

func pick[T any](c chooser, l ...T) T { return l[c.Intn(len(l))] }

// value returns a value that is often at the limits of the bits.
func (c chooser) value(bits int) api.Value {
	v := api.Value{Hi: c.Uint64(), Lo: c.Uint64()}
	switch c.Intn(8) {
	case 0:
		return v
	case 1, 2:
		return pick(c, of(0), of(1), of(2), of(3), ones)
	case 3:
		return pick(c, power(bits-1), below(bits-1), power(min(bits, 127)), value.Sub(value.Ones(bits), of(1), 128))
	case 4:
		return value.Ones(bits)
	}
	return value.And(v, value.Ones(bits))
}

// length returns a length of a prefix that is often at the limits of the bits.
func (c chooser) length(bits int) int {
	if c.Intn(3) == 0 {
		return pick(c, math.MinInt, -1, 0, 1, bits-1, bits, bits+1, 128, 129, 255, 256, math.MaxInt)
	}
	return 1 + c.Intn(bits)
}

// match returns a match that is often canonical, or almost.
func (c chooser) match(kind, bits int) api.Match {
	if c.Intn(6) == 0 {
		return none()
	}
	m := api.Match{Present: true, Value: c.value(bits)}
	switch kind {
	case api.LPM:
		m.Prefix = c.length(bits)
		if c.Intn(4) > 0 {
			m.Value = value.And(m.Value, value.Leading(bits, m.Prefix))
		}
	case api.Ternary:
		m.Mask = c.value(bits)
		if c.Intn(4) > 0 {
			m.Value = value.And(m.Value, m.Mask)
		}
	case api.Range:
		m.High = c.value(bits)
	}
	switch c.Intn(40) {
	case 0:
		m.Present = false
	case 1:
		m.Mask = c.value(bits)
	case 2:
		m.Prefix = c.length(bits)
	case 3:
		m.High = c.value(bits)
	}
	return m
}

// near returns a value that a match covers, most of the time.
func (c chooser) near(m api.Match, kind, bits int) api.Value {
	other := c.value(bits)
	switch {
	case c.Intn(5) == 0:
		return other
	case kind == api.LPM:
		first := value.Leading(bits, m.Prefix)
		return value.Or(value.And(m.Value, first), value.And(other, value.Not(first, bits)))
	case kind == api.Ternary:
		return value.Or(m.Value, value.And(other, value.Not(m.Mask, bits)))
	case kind == api.Range:
		return pick(c, m.Value, m.High, value.Add(m.Value, of(1), 128), value.Sub(m.High, of(1), 128), value.Sub(m.Value, of(1), 128), value.Add(m.High, of(1), 128))
	}
	return m.Value
}
