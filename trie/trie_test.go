package trie

import (
	"fmt"
	"math"
	"math/rand"
	"slices"
	"strings"
	"testing"

	"matchguard/api"
)

func of(n uint64) api.Value { return api.Value{Lo: n} }

// widths are numbers of bits around the ends of bytes and words.
var widths = []int{1, 2, 7, 8, 9, 31, 32, 33, 63, 64, 65, 127, 128}

// fill makes a trie and its oracle from texts, with the IDs from 1 on.
func fill(t *testing.T, bits int, l ...string) (*Trie, *oracle) {
	t.Helper()
	x, o := New(bits), &oracle{bits: bits}
	for i, text := range l {
		p := o.prefix(text, i+1)
		if !x.Put(p.Value, p.Length, p.ID) || !o.put(p.Value, p.Length, p.ID) {
			t.Fatalf("Put(%x, %d) is false", p.Value, p.Length)
		}
	}
	return x, o
}

// P12.1 New: a Trie of each number of bits, without prefixes
func TestNew(t *testing.T) {
	for bits := -3; bits <= 131; bits++ {
		x, o := New(bits), &oracle{bits: min(max(bits, 1), 128)}
		o.same(t, x)
		for n := -2; n <= 131; n++ {
			o.sameFor(t, x, of(0), n)
			if x.Remove(of(0), n) {
				t.Errorf("%d bits: the length %d was not there and is removed", bits, n)
			}
			if want := o.put(of(0), n, n); x.Put(of(0), n, n) != want {
				t.Errorf("%d bits: Put with the length %d is not %t", bits, n, want)
			}
		}
		o.same(t, x)
		if x.Len() != o.bits+1 || x.Nodes() != o.bits+1 {
			t.Errorf("%d bits: %d prefixes, %d nodes", bits, x.Len(), x.Nodes())
		}
	}
}

// P12.1 New: numbers of bits, and lengths, that are very small or very great
func TestExtremes(t *testing.T) {
	ends := []int{math.MinInt, math.MinInt + 1, math.MinInt32, -129, -128, -1, 129, 256, math.MaxInt32, 1 << 32, 1<<32 + 1, math.MaxInt - 1, math.MaxInt}
	for _, bits := range ends {
		x, o := New(bits), &oracle{bits: 1}
		if bits > 0 {
			o.bits = 128
		}
		last := strings.Repeat("1", o.bits)
		p := o.prefix(last, 3)
		for _, n := range ends {
			if x.Put(p.Value, n, 1) || x.Put(of(0), n, 1) || x.Remove(of(0), n) {
				t.Errorf("%d bits: a prefix of the length %d", bits, n)
			}
			o.sameFor(t, x, of(0), n)
		}
		if x.Put(p.Value, p.Length+1, 1) || !x.Put(p.Value, p.Length, p.ID) || !o.put(p.Value, p.Length, p.ID) {
			t.Errorf("%d bits: Put", bits)
		}
		for _, n := range ends {
			o.sameFor(t, x, p.Value, n)
			if x.Put(of(0), n, 1) || x.Remove(p.Value, n) {
				t.Errorf("%d bits: a prefix of the length %d", bits, n)
			}
		}
		o.same(t, x)
	}
}

// P12.1 Put: exactly the values that fit and have no bits behind the first ones are prefixes
func TestPrefixes(t *testing.T) {
	for bits := 1; bits <= 5; bits++ {
		o := &oracle{bits: bits}
		for v := range uint64(4 << bits) {
			for n := -2; n <= bits+3; n++ {
				for _, w := range []api.Value{of(v), {Hi: v}, {Hi: 1, Lo: v}, {Lo: v << 60}} {
					x := New(bits)
					_, want := o.textOf(w, n)
					if x.Put(w, n, 1) != want {
						t.Fatalf("%d bits: Put(%x, %d) is not %t", bits, w, n, want)
					}
					if _, ok := x.Get(w, n); ok != want || x.Remove(w, n) != want || x.Nodes() != 0 {
						t.Fatalf("%d bits: Get(%x, %d) is not %t", bits, w, n, want)
					}
				}
			}
		}
	}
}

// P12.1 Put: a single bit at each place, for all lengths
func TestSingleBits(t *testing.T) {
	for _, bits := range widths {
		o := &oracle{bits: bits}
		for place := range api.MaxBits {
			v := valueOf("1" + strings.Repeat("0", place))
			x := New(bits)
			count := 0
			for n := 0; n <= bits; n++ {
				_, want := o.textOf(v, n)
				if x.Put(v, n, n) != want {
					t.Fatalf("%d bits: Put(%x, %d) is not %t", bits, v, n, want)
				}
				if want {
					count++
				}
			}
			// The bit is among the first ones of the place+1 greatest lengths.
			if place < bits && count != place+1 || place >= bits && count != 0 {
				t.Fatalf("%d bits: %x is a prefix of %d lengths", bits, v, count)
			}
		}
	}
}

// P12.1 Put: nothing changes if the prefix is there, or if it is none
func TestPutAgain(t *testing.T) {
	x, o := fill(t, 8, "0000", "00001010", "", "1")
	for _, p := range o.all() {
		for _, id := range []int{p.ID, p.ID + 1, 0, -1} {
			if x.Put(p.Value, p.Length, id) {
				t.Errorf("%v is added twice", p)
			}
		}
		for _, bad := range []Prefix{{of(256), 8, 9}, {api.Value{Hi: 1}, 4, 9}, {of(1), 7, 9}, {of(128), 0, 9}, {p.Value, -1, 9}, {p.Value, 9, 9}} {
			if x.Put(bad.Value, bad.Length, bad.ID) || x.Remove(bad.Value, bad.Length) {
				t.Errorf("%v is a prefix", bad)
			}
		}
		o.same(t, x)
	}
}

// P12.1 Get: all IDs, also 0; several prefixes may have the same one
func TestIDs(t *testing.T) {
	ids := []int{0, 0, 1, -1, 7, 7, -7, math.MaxInt, math.MaxInt, math.MinInt, 1 << 32, -1 << 32}
	x, o := New(4), &oracle{bits: 4}
	for i, id := range ids {
		p := o.prefix(texts(4)[2*i], id)
		if !x.Put(p.Value, p.Length, id) || x.Put(p.Value, p.Length, id+1) || !o.put(p.Value, p.Length, id) {
			t.Errorf("Put with the ID %d", id)
		}
	}
	o.same(t, x)
	for _, p := range o.all() {
		o.sameFor(t, x, p.Value, p.Length)
	}
	for _, p := range o.all() {
		if !x.Remove(p.Value, p.Length) || !o.remove(p.Value, p.Length) {
			t.Errorf("%v is not removed", p)
		}
		o.sameFor(t, x, p.Value, p.Length)
		o.same(t, x)
	}
}

// P12.1: every set of prefixes of three bits; every value, every length, and every prefix removed from it
func TestAllSets(t *testing.T) {
	for bits := 1; bits <= 3; bits++ {
		l := texts(bits)
		for set := range 1 << len(l) {
			var chosen []string
			for i, text := range l {
				if set>>i&1 == 1 {
					chosen = append(chosen, text)
				}
			}
			x, o := fill(t, bits, chosen...)
			o.same(t, x)
			for v := range uint64(2 << bits) {
				o.sameFor(t, x, of(v), int(v)%(bits+2))
			}
			i := set % len(l)
			p := o.prefix(l[i], 0)
			o.sameFor(t, x, p.Value, p.Length)
			if x.Remove(p.Value, p.Length) != o.remove(p.Value, p.Length) {
				t.Fatalf("%v: Remove(%v)", chosen, p)
			}
			o.same(t, x)
			o.sameFor(t, x, p.Value, p.Length)
		}
	}
}

// P12.1 Remove: this prefix and no other, once; it can be added again
func TestRemove(t *testing.T) {
	l := []string{"", "0", "1", "00", "01", "0110", "0111", "01100110", "01100111", "1111111", "11111111", "11111110", "10"}
	for i, text := range l {
		x, o := fill(t, 8, l...)
		p := o.prefix(text, i+1)
		if !x.Remove(p.Value, p.Length) || x.Remove(p.Value, p.Length) || !o.remove(p.Value, p.Length) {
			t.Errorf("Remove(%v)", p)
		}
		o.same(t, x)
		for v := range uint64(256) {
			o.sameFor(t, x, of(v), p.Length)
		}
		if !x.Put(p.Value, p.Length, -1) || x.Put(p.Value, p.Length, -2) || !o.put(p.Value, p.Length, -1) {
			t.Errorf("%v is not added again", p)
		}
		o.same(t, x)
		o.sameFor(t, x, p.Value, p.Length)
	}
}

// P12.1 Remove: all prefixes, in several orders; no node is left
func TestRemoveAll(t *testing.T) {
	l := texts(4)
	for seed := range int64(100) {
		c := rand.New(rand.NewSource(seed))
		x, o := fill(t, 4+int(seed%5), l...)
		for _, i := range c.Perm(len(l)) {
			p := o.prefix(l[i], 0)
			if !x.Remove(p.Value, p.Length) || !o.remove(p.Value, p.Length) {
				t.Fatalf("seed %d: Remove(%v)", seed, p)
			}
			o.same(t, x)
		}
		if x.Len() != 0 || x.Nodes() != 0 || len(x.All()) != 0 {
			t.Fatalf("seed %d: %d prefixes, %d nodes are left", seed, x.Len(), x.Nodes())
		}
	}
}

// P12.1 Remove: a beginning that is no prefix of the trie is not there, but has a node
func TestBeginnings(t *testing.T) {
	for _, bits := range widths {
		text := strings.Repeat("01", 64)[:bits]
		x, o := fill(t, bits, text)
		for n := range bits {
			p := o.prefix(text[:n], 0)
			if id, ok := x.Get(p.Value, n); id != 0 || ok || x.Remove(p.Value, n) {
				t.Errorf("%d bits: %v is there", bits, p)
			}
		}
		if x.Nodes() != bits+1 || x.Len() != 1 {
			t.Errorf("%d bits: %d nodes, %d prefixes", bits, x.Nodes(), x.Len())
		}
		o.same(t, x)
	}
}

// P12.1 Longest: the document's example, and values at the ends of what the prefixes cover
func TestExample(t *testing.T) {
	x := New(32)
	if !x.Put(of(0x0a000000), 8, 5) || !x.Put(of(0x0a010000), 16, 6) {
		t.Fatal("Put is false")
	}
	if x.Nodes() != 17 || x.Len() != 2 {
		t.Errorf("%d nodes, %d prefixes", x.Nodes(), x.Len())
	}
	cases := []struct {
		v          uint64
		length, id int
		found      bool
	}{
		{0x0a010203, 16, 6, true}, {0x0a010000, 16, 6, true}, {0x0a01ffff, 16, 6, true}, {0x0a020000, 8, 5, true}, {0x0a00ffff, 8, 5, true},
		{0x0a000000, 8, 5, true}, {0x0affffff, 8, 5, true}, {0x09ffffff, 0, 0, false}, {0x0b000000, 0, 0, false}, {0, 0, 0, false}, {0xffffffff, 0, 0, false},
		{0x10a010203, 0, 0, false}, {0x80000000_0a010203, 0, 0, false},
	}
	for _, c := range cases {
		if length, id, found := x.Longest(of(c.v)); length != c.length || id != c.id || found != c.found {
			t.Errorf("Longest(%x) = %d, %d, %t", c.v, length, id, found)
		}
	}
}

// P12.1 Longest: the prefix of length 0 covers all values that fit, and no others
func TestEmptyPrefix(t *testing.T) {
	for _, bits := range widths {
		x, o := fill(t, bits, "")
		if x.Nodes() != 1 || x.Len() != 1 {
			t.Errorf("%d bits: %d nodes, %d prefixes", bits, x.Nodes(), x.Len())
		}
		for place := range api.MaxBits {
			v := valueOf("1" + strings.Repeat("0", place))
			o.sameFor(t, x, v, 0)
			if length, id, found := x.Longest(v); length != 0 || found != (place < bits) || found && id != 1 || !found && id != 0 {
				t.Errorf("%d bits: Longest(%x) = %d, %d, %t", bits, v, length, id, found)
			}
		}
	}
}

// P12.1 Longest: a changed bit matters exactly if it is among the first ones
func TestChangedBits(t *testing.T) {
	c := rand.New(rand.NewSource(1))
	for _, bits := range widths {
		for _, n := range []int{1, bits / 2, bits - 1, bits} {
			text := randomText(c, bits)
			x, o := fill(t, bits, text[:n])
			for i := range bits {
				changed := []byte(text)
				changed[i] ^= 1
				v := valueOf(string(changed))
				if length, id, found := x.Longest(v); found != (i >= n) || found && (length != n || id != 1) {
					t.Errorf("%d bits, %q: Longest(%x) = %d, %d, %t", bits, text[:n], v, length, id, found)
				}
				o.sameFor(t, x, v, n)
			}
		}
	}
}

// P12.2: behind Put of a longer prefix that covers a value, Longest returns it; and behind Remove, the next shorter one
func TestLonger(t *testing.T) {
	c := rand.New(rand.NewSource(2))
	for _, bits := range widths {
		text := randomText(c, bits)
		v := valueOf(text)
		x, o := New(bits), &oracle{bits: bits}
		for n := 0; n <= bits; n++ {
			p := o.prefix(text[:n], 1000+n)
			if !x.Put(p.Value, n, p.ID) {
				t.Fatalf("%d bits: Put(%v)", bits, p)
			}
			if length, id, found := x.Longest(v); length != n || id != p.ID || !found {
				t.Errorf("%d bits: Longest behind %v: %d, %d, %t", bits, p, length, id, found)
			}
		}
		for n := bits; n >= 0; n-- {
			if length, id, found := x.Longest(v); length != n || id != 1000+n || !found || x.Nodes() != n+1 {
				t.Errorf("%d bits: Longest of %d lengths: %d, %d, %t", bits, n, length, id, found)
			}
			if !x.Remove(o.prefix(text[:n], 0).Value, n) {
				t.Errorf("%d bits: Remove of the length %d", bits, n)
			}
		}
		if length, id, found := x.Longest(v); length != 0 || id != 0 || found {
			t.Errorf("%d bits: Longest of an empty trie: %d, %d, %t", bits, length, id, found)
		}
	}
}

// P12.2: results are the same for all orders of the calls
func TestAnyOrder(t *testing.T) {
	l := []string{"", "0", "01", "0101", "01010101", "01010100", "0110", "1", "11", "1111", "11111111", "00000000", "0000", "10000000", "10000001"}
	_, o := fill(t, 8, l...)
	want := o.all()
	for seed := range int64(300) {
		c := rand.New(rand.NewSource(seed))
		x := New(8)
		// What is removed again, and what is there already, leaves no trace.
		for range 20 {
			n := c.Intn(9)
			p := o.prefix(randomText(c, n), 1000)
			x.Put(p.Value, p.Length, p.ID)
		}
		for _, p := range x.All() {
			x.Remove(p.Value, p.Length)
		}
		for _, i := range c.Perm(len(want)) {
			x.Put(want[i].Value, want[i].Length, want[i].ID)
			x.Put(want[i].Value, want[i].Length, 2000)
		}
		for range 2 {
			o.same(t, x)
		}
		for v := range uint64(256) {
			o.sameFor(t, x, of(v), c.Intn(9))
		}
	}
}

// randomText returns n digits.
func randomText(c *rand.Rand, n int) string {
	text := make([]byte, n)
	for i := range text {
		text[i] = '0' + byte(c.Intn(2))
	}
	return string(text)
}

// related returns a prefix, or a value with a length, that often has much in common with those of the oracle.
func related(c *rand.Rand, o *oracle) (api.Value, int) {
	text := randomText(c, c.Intn(o.bits+1))
	if len(o.words) > 0 {
		w := o.words[c.Intn(len(o.words))].text
		switch c.Intn(4) {
		case 0:
			text = w
		case 1:
			text = w[:c.Intn(len(w)+1)]
		case 2:
			text = w + randomText(c, c.Intn(o.bits-len(w)+1))
		}
	}
	p := o.prefix(text, 0)
	switch c.Intn(12) {
	case 0:
		p.Length += c.Intn(5) - 2
	case 1:
		p.Value.Hi ^= 1 << c.Intn(64)
	case 2:
		p.Value.Lo ^= 1 << c.Intn(64)
	}
	return p.Value, p.Length
}

// P12.1, P12.2: random calls, against the oracle
func TestRandomCalls(t *testing.T) {
	found := map[string]int{}
	for seed := range int64(10 * len(widths)) {
		c := rand.New(rand.NewSource(seed))
		bits := widths[seed%int64(len(widths))]
		x, o := New(bits), &oracle{bits: bits}
		for step := range 150 {
			v, n := related(c, o)
			id := c.Intn(9) - 4
			kind, done := "Put", false
			if c.Intn(3) > 0 {
				done = x.Put(v, n, id)
				if done != o.put(v, n, id) {
					t.Fatalf("seed %d, step %d: Put(%x, %d) is %t", seed, step, v, n, done)
				}
			} else {
				kind, done = "Remove", x.Remove(v, n)
				if done != o.remove(v, n) {
					t.Fatalf("seed %d, step %d: Remove(%x, %d) is %t", seed, step, v, n, done)
				}
			}
			o.sameFor(t, x, v, n)
			w, m := related(c, o)
			o.sameFor(t, x, w, m)
			if step%10 == 0 {
				o.same(t, x)
			}
			_, covered := x.Get(w, m)
			found[fmt.Sprint(kind, done)]++
			found[fmt.Sprint("Get", covered)]++
		}
		o.same(t, x)
	}
	if len(found) != 6 {
		t.Errorf("a kind of call is missing: %v", found)
	}
	for kind, n := range found {
		if n < 1000 {
			t.Errorf("the calls are not diverse enough: %s %d", kind, n)
		}
	}
}

// P12.1: many prefixes
func TestMany(t *testing.T) {
	const n = 4000
	x := New(128)
	at := func(i int) api.Value {
		// Multiplication with an odd number permutes the words.
		return api.Value{Hi: uint64(i) * 0x9e3779b97f4a7c15, Lo: uint64(i)}
	}
	for i := range n {
		if !x.Put(at(i), 128, i) {
			t.Fatalf("Put %d", i)
		}
	}
	all := x.All()
	text := func(p Prefix) string { return full(p.Value) }
	if len(all) != n || x.Len() != n || !slices.IsSortedFunc(all, func(a, b Prefix) int { return strings.Compare(text(a), text(b)) }) {
		t.Errorf("%d prefixes in All, %d in Len", len(all), x.Len())
	}
	for i := range n {
		if length, id, ok := x.Longest(at(i)); length != 128 || id != i || !ok || i%2 == 0 && !x.Remove(at(i), 128) {
			t.Fatalf("Longest and Remove %d", i)
		}
	}
	if x.Len() != n/2 || len(x.All()) != n/2 {
		t.Errorf("%d prefixes are left", x.Len())
	}
	for i := range n {
		if x.Remove(at(i), 128) != (i%2 == 1) {
			t.Fatalf("Remove %d", i)
		}
	}
	if x.Len() != 0 || x.Nodes() != 0 {
		t.Errorf("%d prefixes, %d nodes are left", x.Len(), x.Nodes())
	}
}

// P12.1: results share no memory with the trie, nor with each other, and tries none with other tries (rule R3)
func TestSharing(t *testing.T) {
	x, o := fill(t, 8, "", "0101", "01", "11111111")
	y := New(8)
	want := o.all()
	a, b := x.All(), x.All()
	for i := range a {
		a[i] = Prefix{of(9), 9, -9}
	}
	a = append(a[:0], Prefix{})
	if !slices.Equal(b, want) {
		t.Error("a result is changed by a change of another one")
	}
	o.same(t, x)
	x.Remove(want[0].Value, want[0].Length)
	if y.Len() != 0 || y.Nodes() != 0 || !y.Put(want[1].Value, want[1].Length, 50) || y.Remove(want[2].Value, want[2].Length) {
		t.Error("prefixes of a trie are in another one")
	}
	if id, _ := x.Get(want[1].Value, want[1].Length); id != want[1].ID || x.Len() != len(want)-1 || !slices.Equal(b, want) {
		t.Error("a result is changed by a later call")
	}
}

// P12.1: on a nil *Trie, results are zero, and nothing happens
func TestNil(t *testing.T) {
	var x *Trie
	for range 2 {
		for n := -1; n <= 129; n++ {
			for _, v := range []api.Value{{}, of(1), {Hi: 1 << 63}, {Hi: math.MaxUint64, Lo: math.MaxUint64}} {
				if id, ok := x.Get(v, n); id != 0 || ok || x.Put(v, n, 1) || x.Remove(v, n) {
					t.Errorf("Get: %d, %t", id, ok)
				}
				if length, id, ok := x.Longest(v); length != 0 || id != 0 || ok {
					t.Errorf("Longest: %d, %d, %t", length, id, ok)
				}
			}
		}
		if x.Len() != 0 || x.Nodes() != 0 || len(x.All()) != 0 {
			t.Errorf("%d prefixes: %v", x.Len(), x.All())
		}
	}
}

// A Trie that was not made by New does not panic (rule R1).
func TestZero(t *testing.T) {
	var x Trie
	for range 2 {
		for n := -1; n <= 129; n++ {
			for _, v := range []api.Value{{}, of(1), {Hi: 1 << 63}, {Hi: math.MaxUint64, Lo: math.MaxUint64}} {
				x.Get(v, n)
				x.Longest(v)
				x.All()
				if added := x.Put(v, n, 1); x.Remove(v, n) != added || x.Len() != 0 || x.Nodes() != 0 {
					t.Errorf("the zero Trie: Put and Remove of %x, %d", v, n)
				}
			}
		}
	}
}
