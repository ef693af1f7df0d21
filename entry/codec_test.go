package entry

import (
	"bytes"
	"math"
	"slices"
	"testing"

	"matchguard/api"
	"matchguard/value"
	"matchguard/wire"
)

// P10.3 Append and Read: bytes written by hand
func TestEncoding(t *testing.T) {
	last := bytes.Repeat([]byte{255}, 16)
	for i, x := range []struct {
		e    api.Entry
		want [][]byte
	}{
		{api.Entry{}, [][]byte{{0, 0, 0, 0, 0, 0, 0, 0, 0, 0}}},
		{api.Entry{Table: 0x0102, Priority: 0x0304, Action: 0x0506}, [][]byte{{1, 2}, {0, 0}, {3, 4}, {5, 6}, {0, 0}}},
		{api.Entry{Table: 65535, Priority: 65535, Action: 65535}, [][]byte{{255, 255}, {0, 0}, {255, 255}, {255, 255}, {0, 0}}},
		{api.Entry{Matches: []api.Match{none()}}, [][]byte{{0, 0}, {0, 1, 0}, {0, 0}, {0, 0}, {0, 0}}},
		{api.Entry{Matches: []api.Match{{Present: true}}}, [][]byte{{0, 0}, {0, 1}, {1, 1, 0, 1, 0, 0, 1, 0}, {0, 0}, {0, 0}, {0, 0}}},
		{
			api.Entry{Table: 7, Matches: []api.Match{{Present: true, Value: of(0x0102), Mask: of(3), Prefix: 255, High: of(0x040506)}, none(), {Present: true, Value: ones, Mask: ones, Prefix: 1, High: ones}, none()}, Priority: 8, Action: 9, Args: []api.Value{of(0), of(256), of(1), ones}},
			[][]byte{{0, 7}, {0, 4}, {1, 2, 1, 2, 1, 3, 255, 3, 4, 5, 6}, {0}, {1, 16}, last, {16}, last, {1, 16}, last, {0}, {0, 8}, {0, 9}, {0, 4, 1, 0, 2, 1, 0, 1, 1, 16}, last},
		},
	} {
		want := slices.Concat(x.want...)
		for _, ahead := range [][]byte{nil, {}, {9}, {0, 1, 2, 3}} {
			if b := Append(ahead, x.e); !bytes.Equal(b, append(slices.Clone(ahead), want...)) {
				t.Errorf("entry %d behind %v: %v", i, ahead, b)
			}
		}
		for _, behind := range [][]byte{nil, {9}, {0, 0, 0}} {
			r := wire.New(append(slices.Clone(want), behind...))
			if e := Read(r); !Same(e, x.e) || r.Err() != api.OK || r.Left() != len(behind) {
				t.Errorf("entry %d: %+v, %d, %d bytes left", i, e, r.Err(), r.Left())
			}
		}
		for n := range want {
			r := wire.New(want[:n])
			if e := Read(r); !isZero(e) || r.Err() != api.ErrShort {
				t.Errorf("%d bytes of entry %d: %+v, %d", n, i, e, r.Err())
			}
		}
	}
}

func isZero(e api.Entry) bool {
	return e.Table == 0 && len(e.Matches) == 0 && e.Priority == 0 && e.Action == 0 && len(e.Args) == 0
}

// P10.3 Read: bytes that are no encoding
func TestReadErrors(t *testing.T) {
	match := []byte{1, 1, 7, 1, 8, 9, 1, 10}
	four := bytes.Repeat(match, 4)
	for i, x := range []struct {
		b    [][]byte
		want api.Errno
	}{
		{[][]byte{{0, 1, 0, 4}, four, {0, 2, 0, 3, 0, 4, 1, 1, 1, 2, 1, 3, 1, 4}}, api.OK},
		{[][]byte{{0, 1, 0, 5}, four, match, {0, 2, 0, 3, 0, 0}}, api.ErrLimit}, {[][]byte{{0, 1, 0, 5}}, api.ErrLimit}, {[][]byte{{0, 1, 255, 255}}, api.ErrLimit}, {[][]byte{{0, 1, 1, 0}}, api.ErrLimit},
		{[][]byte{{0, 1, 0, 0, 0, 2, 0, 3, 0, 5, 1, 1, 1, 2, 1, 3, 1, 4, 1, 5}}, api.ErrLimit}, {[][]byte{{0, 1, 0, 0, 0, 2, 0, 3, 0, 5}}, api.ErrLimit}, {[][]byte{{0, 1, 0, 0, 0, 2, 0, 3, 1, 0}}, api.ErrLimit},
		// Present is neither 0 nor 1, in the first match or a later one.
		{[][]byte{{0, 1, 0, 1, 2}, match[1:], {0, 2, 0, 3, 0, 0}}, api.ErrForm}, {[][]byte{{0, 1, 0, 2}, match, {255}, match[1:], {0, 2, 0, 3, 0, 0}}, api.ErrForm},
		// The first error stays: ErrForm, and then bytes are missing.
		{[][]byte{{0, 1, 0, 1, 2}}, api.ErrForm}, {[][]byte{{0, 1, 0, 4, 2}}, api.ErrForm},
		// Value, Mask and High: lengths and leading zeros
		{[][]byte{{0, 1, 0, 1, 1, 0}, {1, 8, 9, 1, 10, 0, 2, 0, 3, 0, 0}}, api.ErrForm}, {[][]byte{{0, 1, 0, 1, 1, 17}, make([]byte, 40)}, api.ErrForm}, {[][]byte{{0, 1, 0, 1, 1, 2, 0, 7, 1, 8, 9, 1, 10, 0, 2, 0, 3, 0, 0}}, api.ErrValue},
		{[][]byte{{0, 1, 0, 1, 1, 1, 7, 0, 9, 1, 10, 0, 2, 0, 3, 0, 0}}, api.ErrForm}, {[][]byte{{0, 1, 0, 1, 1, 1, 7, 2, 0, 8, 9, 1, 10, 0, 2, 0, 3, 0, 0}}, api.ErrValue},
		{[][]byte{{0, 1, 0, 1, 1, 1, 7, 1, 8, 9, 0, 0, 2, 0, 3, 0, 0}}, api.ErrForm}, {[][]byte{{0, 1, 0, 1, 1, 1, 7, 1, 8, 9, 2, 0, 10, 0, 2, 0, 3, 0, 0}}, api.ErrValue},
		{[][]byte{{0, 1, 0, 0, 0, 2, 0, 3, 0, 1, 0}}, api.ErrForm}, {[][]byte{{0, 1, 0, 0, 0, 2, 0, 3, 0, 1, 2, 0, 1}}, api.ErrValue}, {[][]byte{{0, 1, 0, 0, 0, 2, 0, 3, 0, 2, 1, 1}}, api.ErrShort},
		{nil, api.ErrShort}, {[][]byte{{1}}, api.ErrShort},
	} {
		r := wire.New(slices.Concat(x.b...))
		if e := Read(r); r.Err() != x.want || isZero(e) != (x.want != api.OK) {
			t.Errorf("bytes %d: %+v, %d, not %d", i, e, r.Err(), x.want)
		}
	}
}

// P10.3 Read: a reader that has an error already, and none
func TestReadBehindError(t *testing.T) {
	r := wire.New(Append(nil, mixed(1, ternary(5, 7), exact(3))))
	r.Uint(9)
	left := r.Left()
	if e := Read(r); !isZero(e) || r.Err() != api.ErrArg || r.Left() != left {
		t.Errorf("%+v, %d", e, r.Err())
	}
	if e := Read(nil); !isZero(e) {
		t.Errorf("no reader: %+v", e)
	}
}

// encodable returns an entry for which Append is promised.
func (c chooser) encodable() api.Entry {
	number := func() int { return pick(c, 0, 1, 255, 256, 65535, c.Intn(65536)) }
	e := api.Entry{Table: number(), Priority: number(), Action: number()}
	for range c.Intn(api.MaxKeys + 1) {
		m := none()
		if c.Intn(3) > 0 {
			m = api.Match{Present: true, Value: c.value(1 + c.Intn(128)), Mask: c.value(1 + c.Intn(128)), Prefix: pick(c, 0, 128, 255, c.Intn(256)), High: c.value(1 + c.Intn(128))}
		}
		e.Matches = append(e.Matches, m)
	}
	for range c.Intn(api.MaxParams + 1) {
		e.Args = append(e.Args, c.value(1+c.Intn(128)))
	}
	return e
}

// written returns the encoding of an entry as the chapter lists its elements.
func written(e api.Entry) []byte {
	number := func(n int) []byte { return []byte{byte(n / 256), byte(n % 256)} }
	v := func(v api.Value) []byte {
		b := value.Bytes(v)
		return append([]byte{byte(len(b))}, b...)
	}
	b := slices.Concat(number(e.Table), number(len(e.Matches)))
	for _, m := range e.Matches {
		if m.Present {
			b = slices.Concat(b, []byte{1}, v(m.Value), v(m.Mask), []byte{byte(m.Prefix)}, v(m.High))
		} else {
			b = append(b, 0)
		}
	}
	b = slices.Concat(b, number(e.Priority), number(e.Action), number(len(e.Args)))
	for _, x := range e.Args {
		b = append(b, v(x)...)
	}
	return b
}

// P10.4: Read(Append(e)) is e; several entries are read one after the other.
func TestRoundTrip(t *testing.T) {
	c := newChooser(4)
	for range 5000 {
		var l []api.Entry
		var b, want []byte
		for range 1 + c.Intn(4) {
			e := c.encodable()
			l, b, want = append(l, e), Append(b, e), append(want, written(e)...)
		}
		if !bytes.Equal(b, want) {
			t.Fatalf("%+v: %v, not %v", l, b, want)
		}
		r := wire.New(b)
		for _, e := range l {
			if x := Read(r); !Same(x, e) || Compare(x, e) != 0 {
				t.Fatalf("%+v, not %+v", x, e)
			}
		}
		if code := r.Finish(); code != api.OK {
			t.Fatalf("%+v: %d", l, code)
		}
	}
}

// P10.3 Read: changed bytes; what is read is the entry with that encoding.
func TestChangedBytes(t *testing.T) {
	c := newChooser(5)
	codes := map[api.Errno]int{}
	for range 30000 {
		b := Append(nil, c.encodable())
		for range 1 + c.Intn(2) {
			b[c.Intn(len(b))] = pick[byte](c, 0, 1, 2, 4, 5, 16, 17, 255)
		}
		r := wire.New(b)
		e := Read(r)
		codes[r.Err()]++
		if r.Err() != api.OK && !isZero(e) {
			t.Fatalf("%v: %+v beside %d", b, e, r.Err())
		}
		if read := b[:len(b)-r.Left()]; r.Err() == api.OK && !bytes.Equal(Append(nil, e), read) {
			t.Fatalf("%v: %+v", read, e)
		}
	}
	for _, code := range []api.Errno{api.OK, api.ErrShort, api.ErrForm, api.ErrLimit, api.ErrValue} {
		if codes[code] < 100 {
			t.Errorf("the bytes are not diverse enough: %v", codes)
		}
	}
}

// R3: Append does not write into the memory behind b, nor does a result share memory with it.
func TestFreshBytes(t *testing.T) {
	memory := bytes.Repeat([]byte{7}, 100)
	b := Append(memory[:2], host(exact(1)))
	if !bytes.Equal(memory, bytes.Repeat([]byte{7}, 100)) {
		t.Errorf("the memory behind b became %v", memory)
	}
	again := Append(memory[:2], host(exact(1)))
	want := slices.Clone(again)
	clear(b)
	clear(memory)
	if !bytes.Equal(again, want) {
		t.Errorf("a result became %v", again)
	}
}

// R3: the results of Read share no memory.
func TestFreshEntries(t *testing.T) {
	want := mixed(1, ternary(5, 7), exact(3))
	want.Args = []api.Value{of(1), of(2)}
	b := Append(nil, want)
	r := wire.New(slices.Concat(b, b))
	first := Read(r)
	clear(b)
	clear(first.Matches[:cap(first.Matches)])
	clear(first.Args[:cap(first.Args)])
	if second := Read(r); !Same(second, want) {
		t.Errorf("%+v, not %+v", second, want)
	}
}

// R1: entries for which Append is not promised
func TestAppendAnything(t *testing.T) {
	for _, e := range []api.Entry{
		{Table: -1, Priority: math.MinInt, Action: math.MaxInt}, {Matches: make([]api.Match, 70000)}, {Args: make([]api.Value, 70000)}, {Matches: []api.Match{{Prefix: 3}, {Present: true, Prefix: -1}, {Present: true, Prefix: math.MaxInt}}},
	} {
		if b := Append([]byte{1, 2}, e); !bytes.HasPrefix(b, []byte{1, 2}) {
			t.Errorf("%v", b)
		}
	}
}
