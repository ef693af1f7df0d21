package entry

import (
	"slices"

	"matchguard/api"
	"matchguard/wire"
)

const (
	numberBytes = 2
	prefixBytes = 1
)

// Append returns b and the encoding of an entry. It is promised for entries with numbers from 0 to 65,535, a Prefix from 0 to 255, at most MaxKeys Matches, those that are not Present zero, and at most MaxParams Args.
func Append(b []byte, e api.Entry) []byte {
	// The functions of wire copy what they append to: the encoding is made by itself, lest b be copied for every element.
	x := wire.AppendUint(nil, e.Table, numberBytes)
	x = wire.AppendUint(x, len(e.Matches), numberBytes)
	for _, m := range e.Matches {
		x = append(x, encodeMatch(m)...)
	}
	x = wire.AppendUint(x, e.Priority, numberBytes)
	x = wire.AppendUint(x, e.Action, numberBytes)
	x = wire.AppendUint(x, len(e.Args), numberBytes)
	for _, v := range e.Args {
		x = append(x, wire.AppendValue(nil, v)...)
	}
	return slices.Concat(b, x)
}

// encodeMatch returns the encoding of a match.
func encodeMatch(m api.Match) []byte {
	x := wire.AppendBool(nil, m.Present)
	if !m.Present {
		return x
	}
	x = wire.AppendValue(x, m.Value)
	x = wire.AppendValue(x, m.Mask)
	x = wire.AppendUint(x, m.Prefix, prefixBytes)
	return wire.AppendValue(x, m.High)
}

// Read reads an entry from a wire.Reader: the elements of Append in order, the lists with the limits MaxKeys and MaxParams. If the reader has an error afterwards, the result is the zero entry.
func Read(r *wire.Reader) api.Entry {
	var e api.Entry
	e.Table = r.Uint(numberBytes)
	e.Matches = readList(r, api.MaxKeys, func() api.Match { return readMatch(r) })
	e.Priority = r.Uint(numberBytes)
	e.Action = r.Uint(numberBytes)
	e.Args = readList(r, api.MaxParams, r.Value)
	if r.Err() != api.OK {
		return api.Entry{}
	}
	return e
}

// readList reads a list of at most that many elements, each by the function read.
func readList[T any](r *wire.Reader, most int, read func() T) []T {
	var l []T
	for range r.Count(most) {
		l = append(l, read())
	}
	return l
}

// readMatch reads a match; one that is not Present is zero.
func readMatch(r *wire.Reader) api.Match {
	if !r.Bool() {
		return api.Match{}
	}
	var m api.Match
	m.Present = true
	m.Value = r.Value()
	m.Mask = r.Value()
	m.Prefix = r.Uint(prefixBytes)
	m.High = r.Value()
	return m
}
