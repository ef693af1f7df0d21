package wire

import (
	"bytes"
	"fmt"
	"math"
	"slices"
	"strings"
	"testing"

	"matchguard/api"
	"matchguard/value"
)

// writers contains each of the functions that write, with ordinary and edge arguments, and what it adds.
var writers = []struct {
	name  string
	write func(b []byte) []byte
	adds  []byte
}{
	{"Uint 1", func(b []byte) []byte { return AppendUint(b, 0x01020304, 1) }, []byte{4}},
	{"Uint 2", func(b []byte) []byte { return AppendUint(b, 0x01020304, 2) }, []byte{3, 4}},
	{"Uint 3", func(b []byte) []byte { return AppendUint(b, 0x01020304, 3) }, []byte{2, 3, 4}},
	{"Uint 4", func(b []byte) []byte { return AppendUint(b, 0x01020304, 4) }, []byte{1, 2, 3, 4}},
	{"Uint of 0", func(b []byte) []byte { return AppendUint(b, 0, 3) }, []byte{0, 0, 0}},
	{"Uint of -1", func(b []byte) []byte { return AppendUint(b, -1, 2) }, []byte{255, 255}},
	{"Uint of -256", func(b []byte) []byte { return AppendUint(b, -256, 4) }, []byte{255, 255, 255, 0}},
	{"Uint of the least", func(b []byte) []byte { return AppendUint(b, math.MinInt, 4) }, []byte{0, 0, 0, 0}},
	{"Uint of the greatest", func(b []byte) []byte { return AppendUint(b, math.MaxInt, 4) }, []byte{255, 255, 255, 255}},
	{"Uint 0", func(b []byte) []byte { return AppendUint(b, 7, 0) }, nil},
	{"Uint 5", func(b []byte) []byte { return AppendUint(b, 7, 5) }, nil},
	{"Uint -1", func(b []byte) []byte { return AppendUint(b, 7, -1) }, nil},
	{"Uint of the least size", func(b []byte) []byte { return AppendUint(b, 7, math.MinInt) }, nil},
	{"Uint of the greatest size", func(b []byte) []byte { return AppendUint(b, 7, math.MaxInt) }, nil},
	{"Bool true", func(b []byte) []byte { return AppendBool(b, true) }, []byte{1}},
	{"Bool false", func(b []byte) []byte { return AppendBool(b, false) }, []byte{0}},
	{"Value of 0", func(b []byte) []byte { return AppendValue(b, api.Value{}) }, []byte{1, 0}},
	{"Value of 256", func(b []byte) []byte { return AppendValue(b, value.Of(256)) }, []byte{2, 1, 0}},
	{"Value of 2^64", func(b []byte) []byte { return AppendValue(b, api.Value{Hi: 1}) }, []byte{9, 1, 0, 0, 0, 0, 0, 0, 0, 0}},
	{"Value of 128 bits", func(b []byte) []byte { return AppendValue(b, value.Ones(128)) }, append([]byte{16}, bytes.Repeat([]byte{255}, 16)...)},
	{"Bytes", func(b []byte) []byte { return AppendBytes(b, []byte{7, 8, 255}) }, []byte{0, 3, 7, 8, 255}},
	{"Bytes of nil", func(b []byte) []byte { return AppendBytes(b, nil) }, []byte{0, 0}},
	{"Bytes of none", func(b []byte) []byte { return AppendBytes(b, []byte{}) }, []byte{0, 0}},
	{"Bytes of 256", func(b []byte) []byte { return AppendBytes(b, pattern(256)) }, append([]byte{1, 0}, pattern(256)...)},
	{"Bytes of 65535", func(b []byte) []byte { return AppendBytes(b, pattern(65535)) }, append([]byte{255, 255}, pattern(65535)...)},
	{"Bytes of 65536", func(b []byte) []byte { return AppendBytes(b, pattern(65536)) }, append([]byte{255, 255}, pattern(65535)...)},
	{"Bytes of 70000", func(b []byte) []byte { return AppendBytes(b, pattern(70000)) }, append([]byte{255, 255}, pattern(65535)...)},
	{"Text", func(b []byte) []byte { return AppendText(b, "a ~") }, []byte{0, 3, 'a', ' ', '~'}},
	{"Text of none", func(b []byte) []byte { return AppendText(b, "") }, []byte{0, 0}},
	{"Text of any bytes", func(b []byte) []byte { return AppendText(b, "\x00\xff\xc3\xbc") }, []byte{0, 4, 0, 255, 0xc3, 0xbc}},
	{"Text of 65536", func(b []byte) []byte { return AppendText(b, string(pattern(65536))) }, append([]byte{255, 255}, pattern(65535)...)},
}

// pattern returns n bytes that differ from their neighbours.
func pattern(n int) []byte {
	b := make([]byte, n)
	for i := range b {
		b[i] = byte(i*7 + i/251)
	}
	return b
}

// P2.1 AppendUint, AppendBool, AppendValue, AppendBytes, AppendText
func TestAppend(t *testing.T) {
	for _, w := range writers {
		for _, base := range [][]byte{nil, {}, {9}, {0, 255, 1}, pattern(300)} {
			want := append(slices.Clone(base), w.adds...)
			if got := w.write(base); !bytes.Equal(got, want) {
				t.Errorf("%s behind %d bytes: %d bytes, not %d: %.40x", w.name, len(base), len(got), len(want), got)
			}
		}
	}
}

// P2.1 and R3: what is behind the argument is not written to, and the result has memory of its own, also if nothing is added.
func TestAppendShares(t *testing.T) {
	for _, w := range writers {
		room := pattern(66000)
		base := room[:5]
		got := w.write(base)
		for i := range got {
			got[i] ^= 0xff
		}
		_ = append(got, 0xaa)
		if !bytes.Equal(room, pattern(66000)) {
			t.Errorf("%s: the argument, or the room behind it, has changed", w.name)
		}
	}
	x := []byte{1, 2, 3}
	got := AppendBytes(nil, x)
	clear(got)
	if !bytes.Equal(x, []byte{1, 2, 3}) {
		t.Error("AppendBytes shares the memory of x")
	}
}

// P2.1: x may be in the memory of b.
func TestAppendItself(t *testing.T) {
	room := []byte{1, 2, 3, 4, 5, 6}
	if got := AppendBytes(room[:2], room[1:5]); !bytes.Equal(got, []byte{1, 2, 0, 4, 2, 3, 4, 5}) {
		t.Errorf("%x", got)
	}
}

// outcome is what a function that reads has done.
type outcome struct {
	result string // as text, to compare results of all types
	code   api.Errno
	left   int
}

// readers contains each of the functions that read, with arguments, and a description of it that is independent of the package: the result, the error and the bytes that are read.
var readers = []struct {
	name string
	read func(r *Reader) string
	want func(b []byte) (string, api.Errno, int)
}{
	{"Uint 1", readUint(1), wantUint(1)},
	{"Uint 2", readUint(2), wantUint(2)},
	{"Uint 3", readUint(3), wantUint(3)},
	{"Uint 4", readUint(4), wantUint(4)},
	{"Uint 0", readUint(0), wantUint(0)},
	{"Uint 5", readUint(5), wantUint(5)},
	{"Uint -1", readUint(-1), wantUint(-1)},
	{"Uint 8", readUint(8), wantUint(8)},
	{"Uint of the least size", readUint(math.MinInt), wantUint(math.MinInt)},
	{"Uint of the greatest size", readUint(math.MaxInt), wantUint(math.MaxInt)},
	{"Bool", func(r *Reader) string { return fmt.Sprint(r.Bool()) }, wantBool},
	{"Value", func(r *Reader) string { return fmt.Sprint(r.Value()) }, wantValue},
	{"Bytes 0", readBytes(0), wantBytes(0)},
	{"Bytes 2", readBytes(2), wantBytes(2)},
	{"Bytes -1", readBytes(-1), wantBytes(-1)},
	{"Bytes of all lengths", readBytes(math.MaxInt), wantBytes(math.MaxInt)},
	{"Bytes of the least", readBytes(math.MinInt), wantBytes(math.MinInt)},
	{"Text 0", readText(0), wantText(0)},
	{"Text 3", readText(3), wantText(3)},
	{"Text -1", readText(-1), wantText(-1)},
	{"Text of all lengths", readText(math.MaxInt), wantText(math.MaxInt)},
	{"Count 0", readCount(0), wantCount(0)},
	{"Count 10", readCount(10), wantCount(10)},
	{"Count 65534", readCount(65534), wantCount(65534)},
	{"Count 65535", readCount(65535), wantCount(65535)},
	{"Count -1", readCount(-1), wantCount(-1)},
	{"Count of the greatest", readCount(math.MaxInt), wantCount(math.MaxInt)},
}

func readUint(n int) func(r *Reader) string {
	return func(r *Reader) string { return fmt.Sprint(r.Uint(n)) }
}

func readBytes(most int) func(r *Reader) string {
	return func(r *Reader) string { return fmt.Sprintf("%q", r.Bytes(most)) }
}

func readText(most int) func(r *Reader) string {
	return func(r *Reader) string { return fmt.Sprintf("%q", r.Text(most)) }
}

func readCount(most int) func(r *Reader) string {
	return func(r *Reader) string { return fmt.Sprint(r.Count(most)) }
}

func wantUint(n int) func(b []byte) (string, api.Errno, int) {
	return func(b []byte) (string, api.Errno, int) {
		if n < 1 || n > 4 {
			return "0", api.ErrArg, 0
		}
		if len(b) < n {
			return "0", api.ErrShort, 0
		}
		sum := 0
		for _, x := range b[:n] {
			sum = sum*256 + int(x)
		}
		return fmt.Sprint(sum), api.OK, n
	}
}

func wantBool(b []byte) (string, api.Errno, int) {
	switch {
	case len(b) == 0:
		return "false", api.ErrShort, 0
	case b[0] > 1:
		return "false", api.ErrForm, 0
	}
	return fmt.Sprint(b[0] == 1), api.OK, 1
}

func wantValue(b []byte) (string, api.Errno, int) {
	zero := fmt.Sprint(api.Value{})
	if len(b) == 0 {
		return zero, api.ErrShort, 0
	}
	n := int(b[0])
	if n == 0 || n > 16 {
		return zero, api.ErrForm, 0
	}
	if len(b) < 1+n {
		return zero, api.ErrShort, 0
	}
	v, code := value.Parse(b[1 : 1+n])
	if code != api.OK {
		return zero, api.ErrValue, 0
	}
	return fmt.Sprint(v), api.OK, 1 + n
}

func wantBytes(most int) func(b []byte) (string, api.Errno, int) {
	return func(b []byte) (string, api.Errno, int) {
		if len(b) < 2 {
			return `""`, api.ErrShort, 0
		}
		n := int(b[0])*256 + int(b[1])
		if n > most {
			return `""`, api.ErrLimit, 0
		}
		if len(b)-2 < n {
			return `""`, api.ErrShort, 0
		}
		return fmt.Sprintf("%q", b[2:2+n]), api.OK, 2 + n
	}
}

func wantText(most int) func(b []byte) (string, api.Errno, int) {
	return func(b []byte) (string, api.Errno, int) {
		text, code, n := wantBytes(most)(b)
		if code == api.OK && bytes.ContainsFunc(b[2:n], func(c rune) bool { return c < 32 || c > 126 }) {
			return `""`, api.ErrForm, 0
		}
		return text, code, n
	}
}

func wantCount(most int) func(b []byte) (string, api.Errno, int) {
	return func(b []byte) (string, api.Errno, int) {
		text, code, n := wantUint(2)(b)
		if code == api.OK && int(b[0])*256+int(b[1]) > most {
			return "0", api.ErrLimit, 0
		}
		return text, code, n
	}
}

// inputs contains every byte string of up to 4 bytes of a small alphabet, and longer ones.
func inputs() [][]byte {
	alphabet := []byte{0, 1, 2, 10, 11, 31, 32, 126, 127, 128, 255}
	list := [][]byte{{}}
	for from := 0; len(list[from]) < 4; from++ {
		for _, x := range alphabet {
			list = append(list, append(slices.Clone(list[from]), x))
		}
	}
	for n := 0; n <= 18; n++ {
		for _, first := range []byte{0, 1, 15, 16, 17} {
			list = append(list, append([]byte{first}, bytes.Repeat([]byte{255}, n)...))
			list = append(list, append([]byte{first, 0}, bytes.Repeat([]byte{7}, n)...))
			list = append(list, append([]byte{0, first}, bytes.Repeat([]byte{'x'}, n)...))
		}
	}
	long := bytes.Repeat([]byte{'y'}, 65536)
	return append(list, AppendBytes(nil, long), append(AppendBytes(nil, long), 1), AppendBytes(nil, long)[:65536])
}

// P2.2 Uint, Bool, Value, Bytes, Text, Count, Left, Err, Finish: the result, the error and the position of one read.
func TestRead(t *testing.T) {
	for _, b := range inputs() {
		for _, f := range readers {
			result, code, n := f.want(b)
			want := outcome{result, code, len(b) - n}
			r := New(b)
			got := outcome{f.read(r), r.Err(), r.Left()}
			if got != want {
				t.Fatalf("%s of %.40x: %.80v, not %.80v", f.name, b, got, want)
			}
			finish := code
			if code == api.OK && want.left > 0 {
				finish = api.ErrForm
			}
			if r.Finish() != finish || r.Err() != code || r.Left() != want.left {
				t.Fatalf("Finish after %s of %.40x: %d, not %d", f.name, b, r.Finish(), finish)
			}
		}
	}
}

// P2.2: errors that apply together, and the bounds of each error, written out.
func TestReadErrors(t *testing.T) {
	for i, x := range []struct {
		b    []byte
		read func(r *Reader) string
		code api.Errno
	}{
		{nil, readUint(0), api.ErrArg},
		{nil, readUint(5), api.ErrArg},
		{nil, readUint(1), api.ErrShort},
		{[]byte{1, 2, 3}, readUint(4), api.ErrShort},
		{[]byte{2}, func(r *Reader) string { return fmt.Sprint(r.Bool()) }, api.ErrForm},
		{[]byte{0}, func(r *Reader) string { return fmt.Sprint(r.Value()) }, api.ErrForm},
		{[]byte{17}, func(r *Reader) string { return fmt.Sprint(r.Value()) }, api.ErrForm},
		{[]byte{2, 0}, func(r *Reader) string { return fmt.Sprint(r.Value()) }, api.ErrShort},
		{[]byte{2, 0, 1}, func(r *Reader) string { return fmt.Sprint(r.Value()) }, api.ErrValue},
		{[]byte{0}, readBytes(-1), api.ErrShort},
		{[]byte{0, 0}, readBytes(-1), api.ErrLimit},
		{[]byte{0, 3}, readBytes(2), api.ErrLimit},
		{[]byte{0, 3, 1, 2}, readBytes(3), api.ErrShort},
		{[]byte{0, 3, 31}, readText(2), api.ErrLimit},
		{[]byte{0, 3, 31}, readText(3), api.ErrShort},
		{[]byte{0, 3, 'a', 31, 'b'}, readText(3), api.ErrForm},
		{[]byte{0, 3, 'a', 'b', 127}, readText(3), api.ErrForm},
		{[]byte{0}, readCount(-1), api.ErrShort},
		{[]byte{0, 0}, readCount(-1), api.ErrLimit},
		{[]byte{1, 0}, readCount(255), api.ErrLimit},
	} {
		r := New(x.b)
		if x.read(r); r.Err() != x.code || r.Left() != len(x.b) {
			t.Errorf("case %d: %d, not %d", i, r.Err(), x.code)
		}
	}
}

// P2.2: behind the first error nothing is read, the position stays, and the error stays.
func TestFirstError(t *testing.T) {
	rest := []byte{1, 1, 1, 0, 0, 0, 0, 1, 'a', 9, 9, 9, 9}
	for _, first := range readers {
		_, code, n := first.want([]byte{2, 0, 9})
		if code == api.OK {
			continue
		}
		r := New(append([]byte{7, 2, 0, 9}, rest...)[:4])
		r.Uint(1)
		first.read(r)
		for _, next := range readers {
			empty := New(nil) // a function that reads returns zero for it
			if got, zero := next.read(r), next.read(empty); got != zero || r.Err() != code || r.Finish() != code || r.Left() != 3-n {
				t.Errorf("%s after the error %d of %s: %s, %d, %d bytes left", next.name, code, first.name, got, r.Err(), r.Left())
			}
		}
	}
	r := New(rest)
	r.Uint(0)
	if r.Uint(1) != 0 || r.Bool() || r.Value() != (api.Value{}) || len(r.Bytes(99)) != 0 || r.Text(99) != "" || r.Count(999) != 0 || r.Left() != len(rest) || r.Err() != api.ErrArg {
		t.Errorf("a reader with an error reads on: %d, %d bytes left", r.Err(), r.Left())
	}
}

// P2.2 Finish: bytes that are left are no first error, and reading goes on.
func TestFinish(t *testing.T) {
	r := New([]byte{5, 6})
	if r.Uint(1) != 5 || r.Finish() != api.ErrForm || r.Err() != api.OK || r.Left() != 1 || r.Uint(1) != 6 || r.Finish() != api.OK {
		t.Errorf("%d, %d bytes left", r.Err(), r.Left())
	}
	if New(nil).Finish() != api.OK || New([]byte{}).Finish() != api.OK || New([]byte{0}).Finish() != api.ErrForm {
		t.Error("Finish of a new reader")
	}
	if r.Bool(); r.Finish() != api.ErrShort {
		t.Errorf("Finish behind an error: %d", r.Finish())
	}
}

// P2.2 New: the reader has a copy, and readers do not disturb each other.
func TestNewCopies(t *testing.T) {
	b := []byte{0, 1, 'a', 0, 1, 'b', 7}
	r, s := New(b), New(b)
	clear(b)
	x := r.Bytes(1)
	x = append(x, 99, 99, 99, 99)
	x[0] = 98
	if r.Text(1) != "b" || r.Uint(1) != 7 || r.Finish() != api.OK {
		t.Error("a result of Bytes shares memory with its reader, or New with its argument")
	}
	if s.Text(1) != "a" || s.Text(1) != "b" || s.Left() != 1 {
		t.Error("two readers share memory")
	}
}

// P2.2: a nil reader.
func TestNil(t *testing.T) {
	var r *Reader
	for range 2 {
		for _, f := range readers {
			if got, zero := f.read(r), f.read(New(nil)); got != zero {
				t.Errorf("%s of a nil reader: %s", f.name, got)
			}
		}
		if r.Left() != 0 || r.Err() != api.OK || r.Finish() != api.OK {
			t.Error("Left, Err or Finish of a nil reader")
		}
	}
}

// element is something that is written and then read.
type element struct {
	write func(b []byte) []byte
	read  func(r *Reader) bool // whether it is what was written
}

// elements returns one of each kind and size for x.
func elements(x uint64) []element {
	v := api.Value{Hi: x >> (x % 64), Lo: x * 31}
	data := pattern(int(x % 300))
	text := strings.Repeat(" Az~", int(x%70))
	list := []element{
		{func(b []byte) []byte { return AppendBool(b, x%2 == 1) }, func(r *Reader) bool { return r.Bool() == (x%2 == 1) }},
		{func(b []byte) []byte { return AppendValue(b, v) }, func(r *Reader) bool { return r.Value() == v }},
		{func(b []byte) []byte { return AppendValue(b, value.Of(x%3)) }, func(r *Reader) bool { return r.Value() == value.Of(x%3) }},
		{func(b []byte) []byte { return AppendBytes(b, data) }, func(r *Reader) bool { return bytes.Equal(r.Bytes(len(data)), data) }},
		{func(b []byte) []byte { return AppendText(b, text) }, func(r *Reader) bool { return r.Text(len(text)) == text }},
		{func(b []byte) []byte { return AppendUint(b, int(x%65536), 2) }, func(r *Reader) bool { return r.Count(65535) == int(x%65536) }},
	}
	for n := 1; n <= 4; n++ {
		number := int(x % (1 << (8 * n)))
		list = append(list, element{func(b []byte) []byte { return AppendUint(b, number, n) }, func(r *Reader) bool { return r.Uint(n) == number }})
	}
	return list
}

// P2.3: what was written is read in the same order; what is cut off is missed.
func TestRoundTrip(t *testing.T) {
	x := uint64(88172645463325252)
	for round := range 50 {
		var list []element
		for range 12 {
			x ^= x << 13
			x ^= x >> 7
			x ^= x << 17
			all := elements(x)
			list = append(list, all[x>>32%uint64(len(all))], all[x>>40%uint64(len(all))])
		}
		var b []byte
		for _, e := range list {
			b = e.write(b)
		}
		r := New(b)
		for i, e := range list {
			if !e.read(r) {
				t.Fatalf("round %d, element %d: another one is read, with the error %d", round, i, r.Err())
			}
		}
		if r.Finish() != api.OK || r.Left() != 0 {
			t.Errorf("round %d: Finish returns %d, %d bytes left", round, r.Finish(), r.Left())
		}
		cut := New(b[:len(b)-1])
		for _, e := range list {
			e.read(cut)
		}
		if cut.Finish() != api.ErrShort {
			t.Errorf("round %d, cut off: Finish returns %d", round, cut.Finish())
		}
	}
}
