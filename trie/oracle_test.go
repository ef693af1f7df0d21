package trie

import (
	"cmp"
	"fmt"
	"slices"
	"strings"
	"testing"

	"matchguard/api"
)

// The oracle of these tests is a list of prefixes as texts of digits 0 and 1, the highest bit first.

// word is a prefix of the oracle.
type word struct {
	text string
	id   int
}

// oracle is a trie of the oracle.
type oracle struct {
	bits  int
	words []word
}

// full returns all 128 digits of a value.
func full(v api.Value) string {
	return fmt.Sprintf("%064b%064b", v.Hi, v.Lo)
}

// digits returns the digits of a value of some bits, and whether it fits them.
func digits(v api.Value, bits int) (string, bool) {
	above, text := full(v)[:api.MaxBits-bits], full(v)[api.MaxBits-bits:]
	return text, !strings.Contains(above, "1")
}

// valueOf returns the value with these digits.
func valueOf(text string) api.Value {
	var v api.Value
	for _, c := range text {
		v.Hi = v.Hi<<1 | v.Lo>>63
		v.Lo <<= 1
		if c == '1' {
			v.Lo |= 1
		}
	}
	return v
}

// textOf returns a prefix as a text, and whether v and n are a prefix.
func (o *oracle) textOf(v api.Value, n int) (string, bool) {
	text, fits := digits(v, o.bits)
	if !fits || n < 0 || n > o.bits || strings.Contains(text[n:], "1") {
		return "", false
	}
	return text[:n], true
}

// prefix returns the prefix that a text is.
func (o *oracle) prefix(text string, id int) Prefix {
	return Prefix{valueOf(text + strings.Repeat("0", o.bits-len(text))), len(text), id}
}

// find returns the index of a prefix, -1 if it is not there.
func (o *oracle) find(v api.Value, n int) int {
	text, ok := o.textOf(v, n)
	if !ok {
		return -1
	}
	return slices.IndexFunc(o.words, func(w word) bool { return w.text == text })
}

func (o *oracle) put(v api.Value, n, id int) bool {
	text, ok := o.textOf(v, n)
	if !ok || o.find(v, n) >= 0 {
		return false
	}
	o.words = append(o.words, word{text, id})
	return true
}

func (o *oracle) remove(v api.Value, n int) bool {
	i := o.find(v, n)
	if i < 0 {
		return false
	}
	o.words = slices.Delete(o.words, i, i+1)
	return true
}

func (o *oracle) get(v api.Value, n int) (int, bool) {
	i := o.find(v, n)
	if i < 0 {
		return 0, false
	}
	return o.words[i].id, true
}

func (o *oracle) longest(v api.Value) (int, int, bool) {
	text, fits := digits(v, o.bits)
	length, id, found := 0, 0, false
	for _, w := range o.words {
		if fits && strings.HasPrefix(text, w.text) && len(w.text) >= length {
			length, id, found = len(w.text), w.id, true
		}
	}
	return length, id, found
}

// nodes returns the number of different beginnings of the texts.
func (o *oracle) nodes() int {
	beginnings := map[string]bool{}
	for _, w := range o.words {
		for n := range len(w.text) + 1 {
			beginnings[w.text[:n]] = true
		}
	}
	return len(beginnings)
}

// all returns all prefixes; texts of digits are ordered like the values, if zeros are behind them.
func (o *oracle) all() []Prefix {
	long := func(w word) string { return w.text + strings.Repeat("0", o.bits-len(w.text)) }
	words := slices.SortedFunc(slices.Values(o.words), func(a, b word) int {
		return cmp.Or(cmp.Compare(long(a), long(b)), cmp.Compare(len(a.text), len(b.text)))
	})
	var l []Prefix
	for _, w := range words {
		l = append(l, o.prefix(w.text, w.id))
	}
	return l
}

// same fails if a trie is not that of the oracle, as far as it can be asked without a value.
func (o *oracle) same(t *testing.T, x *Trie) {
	t.Helper()
	if all, want := x.All(), o.all(); !slices.Equal(all, want) {
		t.Fatalf("%d bits: All is %v, not %v", o.bits, all, want)
	}
	if x.Len() != len(o.words) || x.Nodes() != o.nodes() {
		t.Fatalf("%d bits, %v: Len %d, Nodes %d, not %d", o.bits, o.all(), x.Len(), x.Nodes(), o.nodes())
	}
}

// sameFor fails if what a trie says of a value is not what the oracle does.
func (o *oracle) sameFor(t *testing.T, x *Trie, v api.Value, n int) {
	t.Helper()
	id, ok := x.Get(v, n)
	if wantID, want := o.get(v, n); id != wantID || ok != want {
		t.Fatalf("%d bits, %v: Get(%x, %d) = %d, %t", o.bits, o.all(), v, n, id, ok)
	}
	length, id, ok := x.Longest(v)
	if wantLength, wantID, want := o.longest(v); length != wantLength || id != wantID || ok != want {
		t.Fatalf("%d bits, %v: Longest(%x) = %d, %d, %t", o.bits, o.all(), v, length, id, ok)
	}
}

// texts returns all texts of up to n digits, the shorter ones first.
func texts(n int) []string {
	l := []string{""}
	for i := 0; i < 1<<n-1; i++ {
		l = append(l, l[i]+"0", l[i]+"1")
	}
	return l
}
