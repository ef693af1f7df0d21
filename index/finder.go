package index

import (
	"slices"

	"matchguard/api"
	"matchguard/check"
	"matchguard/exact"
	"matchguard/ordered"
	"matchguard/trie"
)

// finder finds the Number of the entry that wins at a point. There is a type of finders for each kind of index.
type finder interface {
	kind() int
	put(i api.Installed)
	remove(i api.Installed)
	lookup(p api.Point) (number int, found bool)
}

// newFinder returns the finder for a table with these keys.
func newFinder(s api.Schema, keys []api.Key) finder {
	others := slices.DeleteFunc(slices.Clone(keys), func(k api.Key) bool { return k.Kind == api.Exact })
	switch {
	case len(others) == 0:
		return &hashed{keys: len(keys), numbers: exact.New()}
	case len(others) == 1 && others[0].Kind == api.LPM:
		return &prefixed{
			keys:  len(keys),
			at:    slices.Index(keys, others[0]),
			bits:  bitsOf(s, others[0]),
			tries: map[api.Point]*trie.Trie{},
		}
	}
	return &listed{entries: ordered.New(s)}
}

// hashed finds entries whose matches are all Exact: at most one of them matches a point.
type hashed struct {
	keys    int
	numbers *exact.Index
}

func (x *hashed) kind() int { return Hashed }

func (x *hashed) put(i api.Installed) {
	x.numbers.Put(valuesOf(i.Entry), i.Number)
}

func (x *hashed) remove(i api.Installed) {
	x.numbers.Remove(valuesOf(i.Entry))
}

func (x *hashed) lookup(p api.Point) (int, bool) {
	return x.numbers.Get(firstValues(p, x.keys))
}

// prefixed finds entries with one LPM match among Exact ones: of those with the same exact values that match a point, the one with the longest prefix wins.
type prefixed struct {
	keys  int
	at    int // the index of the LPM key
	bits  int // of that key
	tries map[api.Point]*trie.Trie
}

func (x *prefixed) kind() int { return Prefixed }

func (x *prefixed) put(i api.Installed) {
	values := x.exactValues(valuesOf(i.Entry))
	if x.tries[values] == nil {
		x.tries[values] = trie.New(x.bits)
	}
	// A match that is not Present is zero, as is the prefix that covers everything.
	m := i.Entry.Matches[x.at]
	x.tries[values].Put(m.Value, m.Prefix, i.Number)
}

func (x *prefixed) remove(i api.Installed) {
	values := x.exactValues(valuesOf(i.Entry))
	m := i.Entry.Matches[x.at]
	x.tries[values].Remove(m.Value, m.Prefix)
	if x.tries[values].Len() == 0 {
		delete(x.tries, values)
	}
}

func (x *prefixed) lookup(p api.Point) (int, bool) {
	_, number, found := x.tries[x.exactValues(p)].Longest(lastBits(p[x.at], x.bits))
	return number, found
}

// exactValues returns the values of a point for the exact keys; the others are zero.
func (x *prefixed) exactValues(p api.Point) api.Point {
	p[x.at] = api.Value{}
	return firstValues(p, x.keys)
}

// listed finds entries with any matches.
type listed struct {
	entries *ordered.List
}

func (x *listed) kind() int { return Ordered }

func (x *listed) put(i api.Installed) {
	x.entries.Put(i)
}

func (x *listed) remove(i api.Installed) {
	x.entries.Remove(i.Number)
}

func (x *listed) lookup(p api.Point) (int, bool) {
	i, found := x.entries.Lookup(p)
	return i.Number, found
}

// valuesOf returns the values of the matches of an entry.
func valuesOf(e api.Entry) api.Point {
	var p api.Point
	for i, m := range e.Matches {
		p[i] = m.Value
	}
	return p
}

// firstValues returns the first n values of a point; the others are zero.
func firstValues(p api.Point, n int) api.Point {
	clear(p[n:])
	return p
}

// lastBits returns the last bits of a value. A prefix covers a value by these alone (entry.Covers), but a trie finds nothing for a value that has others.
func lastBits(v api.Value, bits int) api.Value {
	// A shift by 64 or more leaves 0, and 0 less 1 has all bits.
	v.Hi &= 1<<max(bits-64, 0) - 1
	v.Lo &= 1<<max(bits, 0) - 1
	return v
}

// bitsOf returns the bits of a key: those of its field; 0 if there is no such field.
func bitsOf(s api.Schema, k api.Key) int {
	i := check.FieldOf(s, k.Field)
	if i < 0 {
		return 0
	}
	return s.Fields[i].Bits
}
