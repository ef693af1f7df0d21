package entry

import (
	"cmp"
	"slices"

	"matchguard/api"
	"matchguard/value"
)

// SameKey reports whether Table, Matches and Priority of a and b are equal.
func SameKey(a, b api.Entry) bool {
	return a.Table == b.Table && a.Priority == b.Priority && slices.Equal(a.Matches, b.Matches)
}

// Same reports whether all fields of a and b are equal (nil and empty lists are equal).
func Same(a, b api.Entry) bool {
	return SameKey(a, b) && a.Action == b.Action && slices.Equal(a.Args, b.Args)
}

// Compare returns -1, 0 or 1 in the canonical order: by Table; then the greater Priority comes first; then by the Matches; then by Action; then by Args. A list comes before the longer ones that begin with it.
func Compare(a, b api.Entry) int {
	return firstOf(
		cmp.Compare(a.Table, b.Table),
		cmp.Compare(b.Priority, a.Priority),
		slices.CompareFunc(a.Matches, b.Matches, compareMatches),
		cmp.Compare(a.Action, b.Action),
		slices.CompareFunc(a.Args, b.Args, value.Compare),
	)
}

// compareMatches orders matches: one that is not Present comes first, then by Value, Mask, Prefix and High.
func compareMatches(a, b api.Match) int {
	if a == b {
		return 0
	}
	return firstOf(
		compareTruths(a.Present, b.Present),
		value.Compare(a.Value, b.Value),
		value.Compare(a.Mask, b.Mask),
		cmp.Compare(a.Prefix, b.Prefix),
		value.Compare(a.High, b.High),
	)
}

// compareTruths orders false before true.
func compareTruths(a, b bool) int {
	switch {
	case a == b:
		return 0
	case b:
		return -1
	}
	return 1
}

// firstOf returns the first of the results of comparisons that is not 0; 0 if there is none.
func firstOf(results ...int) int {
	for _, r := range results {
		if r != 0 {
			return r
		}
	}
	return 0
}
