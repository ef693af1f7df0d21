package schema

import (
	"matchguard/api"
	"matchguard/wire"
)

const (
	numberBytes = 2
	smallBytes  = 1
	countBytes  = 2
	byteBits    = 8
	firstOfText = 32
	lastOfText  = 126
)

// reading returns the codec that reads from r. It need not look for errors: behind the first one r returns only zeros, and so the lists are empty.
func reading(r *wire.Reader) *codec {
	return &codec{
		number: func(n *int) { *n = r.Uint(numberBytes) },
		small:  func(n *int) { *n = r.Uint(smallBytes) },
		truth:  func(x *bool) { *x = r.Bool() },
		value:  func(v *api.Value) { *v = r.Value() },
		text:   func(s *string, most int) { *s = r.Text(most) },
		count:  func(_, most int) int { return r.Count(most) },
	}
}

// writing returns the codec that writes to w.
func writing(w *writer) *codec {
	return &codec{
		number: func(n *int) { w.number(*n, numberBytes) },
		small:  func(n *int) { w.number(*n, smallBytes) },
		truth:  func(x *bool) { w.add(wire.AppendBool(nil, *x)) },
		value:  func(v *api.Value) { w.add(wire.AppendValue(nil, *v)) },
		text:   func(s *string, most int) { w.text(*s, most) },
		count:  w.count,
	}
}

// writer collects an encoding. It notes errors and goes on, because an error that is listed first may be found last.
type writer struct {
	b       []byte
	long    bool // a list or a text is longer than its limit
	strange bool // a text contains a byte that does not belong to texts
	outside bool // a number is not in its range
}

// err returns the first of the errors listed at Encode that applies.
func (w *writer) err() api.Errno {
	switch {
	case w.long:
		return api.ErrLimit
	case w.strange:
		return api.ErrForm
	case w.outside:
		return api.ErrArg
	case len(w.b) > api.MaxMessage:
		return api.ErrLimit
	}
	return api.OK
}

// add adds an element. The functions of wire copy what they append to: each element is written to nil, lest all that is written be copied for every one.
func (w *writer) add(element []byte) {
	w.b = append(w.b, element...)
}

func (w *writer) number(n, bytes int) {
	if n < 0 || n >= 1<<(byteBits*bytes) {
		w.outside = true
	}
	w.add(wire.AppendUint(nil, n, bytes))
}

func (w *writer) text(s string, most int) {
	// A text that is too long is not looked at, whatever its length: no error comes before this one.
	if len(s) > most {
		w.long = true
		return
	}
	if !isText(s) {
		w.strange = true
	}
	w.add(wire.AppendText(nil, s))
}

// count writes the number of elements of a list and returns how many of them are to be written: none if there are too many, for no error comes before this one.
func (w *writer) count(n, most int) int {
	if n > most {
		w.long = true
		return 0
	}
	w.add(wire.AppendUint(nil, n, countBytes))
	return n
}

// isText reports whether s consists of bytes from 32 to 126.
func isText(s string) bool {
	for i := range len(s) {
		if s[i] < firstOfText || s[i] > lastOfText {
			return false
		}
	}
	return true
}
