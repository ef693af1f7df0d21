package entry

import (
	"cmp"
	"slices"

	"matchguard/api"
	"matchguard/value"
)

// Covers reports whether a match for a key of a Kind and bits covers the value v: a match that is not Present covers every value; Exact covers Value; LPM covers the values whose first Prefix bits are those of Value; Ternary those v for which v and Mask is Value; Range those from Value to High. It is false for other Kinds.
func Covers(m api.Match, kind, bits int, v api.Value) bool {
	switch kind {
	case api.Exact:
		return !m.Present || v == m.Value
	case api.LPM:
		first := value.Leading(bits, m.Prefix)
		return !m.Present || value.And(v, first) == value.And(m.Value, first)
	case api.Ternary:
		return !m.Present || value.And(v, m.Mask) == m.Value
	case api.Range:
		return !m.Present || value.Compare(m.Value, v) <= 0 && value.Compare(v, m.High) <= 0
	}
	return false
}

// Matches reports whether every match of an entry, for which CheckKey returns OK, covers the value of its key in p.
func Matches(s api.Schema, e api.Entry, p api.Point) bool {
	t, ok := tableOf(s, e)
	// A schema that is not well-formed may have more keys than a point.
	if !ok || len(e.Matches) != len(t.Keys) || len(t.Keys) > len(p) {
		return false
	}
	for i, k := range t.Keys {
		if !Covers(e.Matches[i], k.Kind, bitsOf(s, k), p[i]) {
			return false
		}
	}
	return true
}

// Prefix returns the Prefix of the match for the key of the Kind LPM; 0 if the table has none, or there is no such table or match.
func Prefix(s api.Schema, e api.Entry) int {
	// Without a table there are no keys.
	t, _ := tableOf(s, e)
	i := slices.IndexFunc(t.Keys, func(k api.Key) bool { return k.Kind == api.LPM })
	if i < 0 || i >= len(e.Matches) {
		return 0
	}
	return e.Matches[i].Prefix
}

// Beats reports whether a wins over b: its Priority is greater; or equal, and Prefix is greater; or both are equal, and its Number is greater.
func Beats(s api.Schema, a, b api.Installed) bool {
	return firstOf(
		cmp.Compare(a.Entry.Priority, b.Entry.Priority),
		cmp.Compare(Prefix(s, a.Entry), Prefix(s, b.Entry)),
		cmp.Compare(a.Number, b.Number),
	) > 0
}
