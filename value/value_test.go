package value

import (
	"bytes"
	"math"
	"math/big"
	"testing"

	"matchguard/api"
)

const word = ^uint64(0)

func v(hi, lo uint64) api.Value { return api.Value{Hi: hi, Lo: lo} }

// samples returns values around every power of 2, and some without a pattern.
func samples() []api.Value {
	list := []api.Value{{}, v(0x0123456789abcdef, 0xfedcba9876543210), v(0xdeadbeef, 0xcafe000000000001), v(1<<63, 1), v(word, 0)}
	for i := uint(0); i < 128; i++ {
		power := new(big.Int).Lsh(big.NewInt(1), i)
		below := new(big.Int).Sub(power, big.NewInt(1))
		above := new(big.Int).Add(power, big.NewInt(1))
		list = append(list, fromBig(below), fromBig(power), fromBig(above))
	}
	return append(list, v(word, word-1), v(word, word))
}

// widths contains numbers of bits, counts and indexes, in and out of their ranges.
var widths = []int{math.MinInt, math.MinInt + 1, -129, -128, -64, -1, 0, 1, 2, 7, 8, 9, 31, 32, 33, 62, 63, 64, 65, 66, 95, 126, 127, 128, 129, 191, 192, 255, 256, 1 << 32, math.MaxInt - 1, math.MaxInt}

func toBig(a api.Value) *big.Int {
	n := new(big.Int).SetUint64(a.Hi)
	n.Lsh(n, 64)
	return n.Or(n, new(big.Int).SetUint64(a.Lo))
}

// fromBig returns n modulo 2^128.
func fromBig(n *big.Int) api.Value {
	n = bigModulo(n, 128)
	low := new(big.Int).And(n, new(big.Int).SetUint64(word))
	return v(new(big.Int).Rsh(n, 64).Uint64(), low.Uint64())
}

// bigModulo returns n modulo 2^bits, from 0 to 2^bits - 1.
func bigModulo(n *big.Int, bits int) *big.Int {
	return new(big.Int).Mod(n, new(big.Int).Lsh(big.NewInt(1), uint(bits)))
}

func counted(bits, most int) int {
	switch {
	case bits < 0:
		return 0
	case bits > most:
		return most
	}
	return bits
}

func bigOnes(bits int) *big.Int {
	power := new(big.Int).Lsh(big.NewInt(1), uint(counted(bits, 128)))
	return power.Sub(power, big.NewInt(1))
}

// P1.1 Of
func TestOf(t *testing.T) {
	for _, n := range []uint64{0, 1, 256, 1 << 63, word} {
		if got := Of(n); got != v(0, n) {
			t.Errorf("Of(%d) = %x", n, got)
		}
	}
}

// P1.1 Ones
func TestOnes(t *testing.T) {
	for _, n := range widths {
		if got := Ones(n); got != fromBig(bigOnes(n)) {
			t.Errorf("Ones(%d) = %x", n, got)
		}
	}
	if Ones(0) != v(0, 0) || Ones(9) != v(0, 511) || Ones(128) != v(word, word) {
		t.Error("Ones of 0, 9 or 128")
	}
}

// P1.1 Leading
func TestLeading(t *testing.T) {
	for _, bits := range widths {
		for _, n := range widths {
			width := counted(bits, 128)
			want := new(big.Int).Sub(bigOnes(width), bigOnes(width-counted(n, width)))
			if got := Leading(bits, n); got != fromBig(want) {
				t.Errorf("Leading(%d, %d) = %x", bits, n, got)
			}
		}
	}
	if got := Leading(32, 8); got != Of(0xff000000) {
		t.Errorf("Leading(32, 8) = %x", got)
	}
}

// P1.1 Compare
func TestCompare(t *testing.T) {
	list := samples()
	for _, a := range list {
		for _, b := range list {
			if got, want := Compare(a, b), toBig(a).Cmp(toBig(b)); got != want {
				t.Fatalf("Compare(%x, %x) = %d, want %d", a, b, got, want)
			}
		}
	}
}

// P1.1 And, Or, Xor
func TestBitwise(t *testing.T) {
	list := samples()
	for _, a := range list {
		for _, b := range list {
			x, y := toBig(a), toBig(b)
			if got := And(a, b); got != fromBig(new(big.Int).And(x, y)) {
				t.Fatalf("And(%x, %x) = %x", a, b, got)
			}
			if got := Or(a, b); got != fromBig(new(big.Int).Or(x, y)) {
				t.Fatalf("Or(%x, %x) = %x", a, b, got)
			}
			if got := Xor(a, b); got != fromBig(new(big.Int).Xor(x, y)) {
				t.Fatalf("Xor(%x, %x) = %x", a, b, got)
			}
		}
	}
}

// P1.1 Not
func TestNot(t *testing.T) {
	for _, a := range samples() {
		for _, n := range widths {
			want := new(big.Int).AndNot(bigOnes(n), toBig(a))
			if got := Not(a, n); got != fromBig(want) {
				t.Fatalf("Not(%x, %d) = %x", a, n, got)
			}
		}
	}
}

// P1.1 Add, Sub
func TestAddSub(t *testing.T) {
	list := samples()
	for i, a := range list {
		for j, b := range list {
			bits := widths[(i+j)%len(widths)]
			for _, n := range []int{bits, 0, 64, 128} {
				x, y := toBig(a), toBig(b)
				sum := bigModulo(new(big.Int).Add(x, y), counted(n, 128))
				if got := Add(a, b, n); got != fromBig(sum) {
					t.Fatalf("Add(%x, %x, %d) = %x", a, b, n, got)
				}
				difference := bigModulo(new(big.Int).Sub(x, y), counted(n, 128))
				if got := Sub(a, b, n); got != fromBig(difference) {
					t.Fatalf("Sub(%x, %x, %d) = %x", a, b, n, got)
				}
			}
		}
	}
}

// P1.1 Left, Right
func TestShifts(t *testing.T) {
	for _, a := range samples() {
		for _, n := range widths {
			// 2^200 moves all the bits out; more would only take time.
			count := uint(counted(n, 200))
			if got := Left(a, n); got != fromBig(new(big.Int).Lsh(toBig(a), count)) {
				t.Fatalf("Left(%x, %d) = %x", a, n, got)
			}
			if got := Right(a, n); got != fromBig(new(big.Int).Rsh(toBig(a), count)) {
				t.Fatalf("Right(%x, %d) = %x", a, n, got)
			}
		}
	}
}

// P1.1 Bit
func TestBit(t *testing.T) {
	for _, a := range samples() {
		for i := -3; i < 260; i++ {
			want := i >= 0 && i < 128 && toBig(a).Bit(i) == 1
			if got := Bit(a, i); got != want {
				t.Fatalf("Bit(%x, %d) = %t", a, i, got)
			}
		}
	}
	for _, i := range []int{math.MinInt, math.MinInt + 64, -64, 1 << 32, math.MaxInt - 63, math.MaxInt} {
		if Bit(v(word, word), i) {
			t.Errorf("Bit of all ones, %d", i)
		}
	}
}

// P1.1 Len, Fits
func TestLenFits(t *testing.T) {
	for _, a := range samples() {
		want := toBig(a).BitLen()
		if got := Len(a); got != want {
			t.Errorf("Len(%x) = %d, want %d", a, got, want)
		}
		for _, n := range append([]int{want - 1, want, want + 1}, widths...) {
			if got := Fits(a, n); got != (want <= n) {
				t.Errorf("Fits(%x, %d) = %t", a, n, got)
			}
		}
	}
	if Fits(v(0, 0), -1) || !Fits(v(0, 0), 0) {
		t.Error("Fits must not count a negative number of bits as 0")
	}
}

// P1.1 Bytes
func TestBytes(t *testing.T) {
	for _, a := range samples() {
		want := toBig(a).Bytes()
		if len(want) == 0 {
			want = []byte{0}
		}
		if got := Bytes(a); !bytes.Equal(got, want) {
			t.Errorf("Bytes(%x) = %x", a, got)
		}
	}
	if got := Bytes(Of(256)); !bytes.Equal(got, []byte{1, 0}) {
		t.Errorf("Bytes(256) = %x", got)
	}
}

// P1.1 Parse, ordinary byte strings
func TestParse(t *testing.T) {
	for _, a := range samples() {
		b := toBig(a).Bytes()
		if len(b) == 0 {
			b = []byte{0}
		}
		if got, code := Parse(b); got != a || code != api.OK {
			t.Errorf("Parse(%x) = %x, %d", b, got, code)
		}
	}
}

// P1.1 Parse, errors and their order; R2: the value is zero with an error
func TestParseErrors(t *testing.T) {
	long := bytes.Repeat([]byte{0xff}, 17)
	for _, x := range []struct {
		b    []byte
		want api.Errno
	}{
		{nil, api.ErrShort},
		{[]byte{}, api.ErrShort},
		{long, api.ErrLimit},
		{make([]byte, 17), api.ErrLimit},
		{append([]byte{0}, long...), api.ErrLimit},
		{bytes.Repeat([]byte{1}, 1000), api.ErrLimit},
		{[]byte{0, 0}, api.ErrValue},
		{[]byte{0, 1}, api.ErrValue},
		{make([]byte, 16), api.ErrValue},
		{append([]byte{0}, long[:15]...), api.ErrValue},
	} {
		if got, code := Parse(x.b); code != x.want || got != v(0, 0) {
			t.Errorf("Parse(%x) = %x, %d, want error %d", x.b, got, code, x.want)
		}
	}
}

// R3: arguments are not changed, and results are new memory.
func TestMemory(t *testing.T) {
	b := []byte{1, 2, 3}
	a, _ := Parse(b)
	if !bytes.Equal(b, []byte{1, 2, 3}) {
		t.Errorf("Parse changed its argument: %x", b)
	}
	first := Bytes(a)
	first[0] = 9
	if again := Bytes(a); !bytes.Equal(again, b) {
		t.Errorf("Bytes returned shared memory: %x", again)
	}
}

// P1.2 Parse(Bytes(a)) is a, and Bytes(Parse(b)) is b
func TestRoundTrip(t *testing.T) {
	for _, a := range samples() {
		if got, code := Parse(Bytes(a)); got != a || code != api.OK {
			t.Errorf("Parse(Bytes(%x)) = %x, %d", a, got, code)
		}
	}
	for n := 1; n <= 16; n++ {
		for _, first := range []byte{1, 0x7f, 0x80, 0xff} {
			b := append([]byte{first}, make([]byte, n-1)...)
			a, code := Parse(b)
			if got := Bytes(a); code != api.OK || !bytes.Equal(got, b) {
				t.Errorf("Bytes(Parse(%x)) = %x, %d", b, got, code)
			}
		}
	}
	for i := range 256 {
		a, code := Parse([]byte{byte(i)})
		if got := Bytes(a); code != api.OK || len(got) != 1 || got[0] != byte(i) {
			t.Errorf("Bytes(Parse(%x)) = %x, %d", i, got, code)
		}
	}
}

// P1.2 A longer canonical byte string belongs to a greater value.
func TestLongerIsGreater(t *testing.T) {
	list := samples()
	for _, a := range list {
		for _, b := range list {
			if len(Bytes(a)) > len(Bytes(b)) && Compare(a, b) != 1 {
				t.Fatalf("%x is not greater than %x", a, b)
			}
		}
	}
}

// P1.2 Sub(Add(a, b, 128), b, 128) is a
func TestSubUndoesAdd(t *testing.T) {
	list := samples()
	for _, a := range list {
		for _, b := range list {
			if got := Sub(Add(a, b, 128), b, 128); got != a {
				t.Fatalf("Sub(Add(%x, %x)) = %x", a, b, got)
			}
		}
	}
}
