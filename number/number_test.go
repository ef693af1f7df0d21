package number

import (
	"math"
	"math/big"
	"math/rand"
	"strings"
	"testing"

	"matchguard/api"
	"matchguard/value"
)

const (
	word     = ^uint64(0)
	greatest = "340282366920938463463374607431768211455" // 2^128 - 1
)

func v(hi, lo uint64) api.Value { return api.Value{Hi: hi, Lo: lo} }

func power(n uint) *big.Int { return new(big.Int).Lsh(big.NewInt(1), n) }

// inRange reports whether n is one of the integers for which there are promises.
func inRange(n *big.Int) bool { return n.CmpAbs(power(190)) <= 0 }

// samples returns integers around powers of 2 up to 2^190 and powers of 10, some without a pattern, and the negatives of all of them.
func samples() []*big.Int {
	var list []*big.Int
	add := func(n *big.Int) {
		if inRange(n) {
			list = append(list, n, new(big.Int).Neg(n))
		}
	}
	add(new(big.Int))
	for i := uint(0); i <= 190; i += 1 + i%3 {
		for d := int64(-1); d <= 1; d++ {
			add(new(big.Int).Add(power(i), big.NewInt(d)))
		}
	}
	for i := int64(1); i <= 57; i += 4 {
		ten := new(big.Int).Exp(big.NewInt(10), big.NewInt(i), nil)
		add(ten)
		add(new(big.Int).Sub(ten, big.NewInt(1)))
	}
	random := rand.New(rand.NewSource(5))
	for i := uint(1); i <= 190; i += 7 {
		add(new(big.Int).Rand(random, power(i)))
	}
	// Carries and borrows begin and end at the words.
	for i := uint(32); i <= 160; i += 32 {
		for d := int64(-1); d <= 1; d++ {
			add(new(big.Int).Add(power(i), big.NewInt(d)))
		}
		add(new(big.Int).Sub(power(190), power(i)))
	}
	return list
}

// build returns the number of n, made from parts of 62 bits by nothing but Of and Add.
func build(n *big.Int) Number {
	rest := new(big.Int).Abs(n)
	var parts []int
	for rest.Sign() != 0 {
		parts = append(parts, int(new(big.Int).And(rest, big.NewInt(1<<62-1)).Int64()))
		rest.Rsh(rest, 62)
	}
	a := Of(0)
	for i := len(parts) - 1; i >= 0; i-- {
		for range 62 {
			a = Add(a, a)
		}
		if n.Sign() < 0 {
			parts[i] = -parts[i]
		}
		a = Add(a, Of(parts[i]))
	}
	return a
}

// toBig returns the integer that a stands for, read from the words.
func toBig(a Number) *big.Int {
	n := new(big.Int)
	for i := size - 1; i >= 0; i-- {
		n.Lsh(n, 32)
		n.Or(n, new(big.Int).SetUint64(uint64(a.words[i])))
	}
	if n.Bit(191) == 1 {
		n.Sub(n, power(192))
	}
	return n
}

func same(t *testing.T, what string, got Number, want *big.Int) {
	t.Helper()
	if toBig(got).Cmp(want) != 0 {
		t.Fatalf("%s = %s, want %s", what, toBig(got), want)
	}
}

// toValue returns the value of n, which is from 0 to 2^128 - 1.
func toValue(n *big.Int) api.Value {
	low := new(big.Int).And(n, new(big.Int).SetUint64(word))
	return v(new(big.Int).Rsh(n, 64).Uint64(), low.Uint64())
}

func isOfValue(n *big.Int) bool { return n.Sign() >= 0 && n.BitLen() <= 128 }

// P5.1 Of
func TestOf(t *testing.T) {
	list := []int{0, 1, -1, 2, -2, 1<<31 - 1, 1 << 31, 1<<31 + 1, -1 << 31, -1<<31 - 1, 1<<32 - 1, 1 << 32, 1<<32 + 1, -1 << 32, -1<<32 - 1, 0x0123456789abcdef, -0x0123456789abcdef, math.MaxInt, math.MaxInt - 1, math.MinInt, math.MinInt + 1}
	for _, n := range list {
		same(t, "Of", Of(n), big.NewInt(int64(n)))
	}
	if Of(0) != (Number{}) {
		t.Error("the zero Number is not 0")
	}
}

// P5.1 From
func TestFrom(t *testing.T) {
	for _, n := range samples() {
		if isOfValue(n) {
			same(t, "From", From(toValue(n)), n)
		}
	}
	same(t, "From of all ones", From(v(word, word)), new(big.Int).Sub(power(128), big.NewInt(1)))
	same(t, "From", From(v(0x0123456789abcdef, 0xfedcba9876543210)), new(big.Int).SetBytes([]byte{1, 0x23, 0x45, 0x67, 0x89, 0xab, 0xcd, 0xef, 0xfe, 0xdc, 0xba, 0x98, 0x76, 0x54, 0x32, 0x10}))
}

// P5.1 Add, Sub, Compare, and that == compares the integers
func TestPairs(t *testing.T) {
	list := samples()
	numbers := make([]Number, len(list))
	for i, n := range list {
		numbers[i] = build(n)
		same(t, "built", numbers[i], n)
	}
	for i, x := range list {
		for k, y := range list {
			a, b := numbers[i], numbers[k]
			if sum := new(big.Int).Add(x, y); inRange(sum) {
				same(t, "Add("+x.String()+", "+y.String()+")", Add(a, b), sum)
			}
			difference := new(big.Int).Sub(x, y)
			if inRange(difference) {
				same(t, "Sub("+x.String()+", "+y.String()+")", Sub(a, b), difference)
			}
			if got := Compare(a, b); got != difference.Sign() {
				t.Fatalf("Compare(%s, %s) = %d", x, y, got)
			}
			if (a == b) != (difference.Sign() == 0) {
				t.Fatalf("%s == %s is %t", x, y, a == b)
			}
		}
	}
}

// P5.1 Compare, where the difference is not in the range of numbers
func TestCompareEnds(t *testing.T) {
	low, high := build(new(big.Int).Neg(power(190))), build(power(190))
	if Compare(low, high) != -1 || Compare(high, low) != 1 || Compare(low, low) != 0 || Compare(high, high) != 0 {
		t.Error("Compare of -(2^190) and 2^190")
	}
}

// P5.1 Neg
func TestNeg(t *testing.T) {
	for _, n := range samples() {
		same(t, "Neg("+n.String()+")", Neg(build(n)), new(big.Int).Neg(n))
	}
	if Neg(Of(0)) != Of(0) {
		t.Error("Neg(0) is not 0")
	}
}

// Two Numbers are equal exactly if their integers are: in whatever way they are made.
func TestEqual(t *testing.T) {
	list := []Number{Of(-3), Neg(Of(3)), Sub(Of(0), Of(3)), Sub(From(value.Ones(128)), Add(From(value.Ones(128)), Of(3))), Add(Of(math.MinInt), Of(math.MaxInt-2)), Sub(Of(4), Of(7))}
	for _, a := range list {
		for _, b := range list {
			if a != b || Compare(a, b) != 0 {
				t.Errorf("%v is not %v", a, b)
			}
		}
	}
	seen := map[Number]bool{}
	for i := -1000; i < 1000; i++ {
		seen[Sub(From(v(1, 0)), Add(From(v(1, 0)), Of(i)))] = true
	}
	if len(seen) != 2000 || !seen[Of(999)] || !seen[Of(-999)] {
		t.Error("numbers as keys of a map")
	}
}

// P5.1 Value
func TestValue(t *testing.T) {
	for _, n := range samples() {
		got, ok := Value(build(n))
		want := v(0, 0)
		if isOfValue(n) {
			want = toValue(n)
		}
		if ok != isOfValue(n) || got != want {
			t.Errorf("Value(%s) = %x, %t", n, got, ok)
		}
	}
	for _, x := range []struct {
		a    Number
		want api.Value
		ok   bool
	}{
		{Of(0), v(0, 0), true},
		{Of(-1), v(0, 0), false},
		{From(v(word, word)), v(word, word), true},
		{Add(From(v(word, word)), Of(1)), v(0, 0), false},
		{Add(From(v(word, word)), Of(8)), v(0, 0), false},
		{Neg(From(v(word, word))), v(0, 0), false},
		{build(power(160)), v(0, 0), false},
		{build(new(big.Int).Add(power(190), big.NewInt(7))), v(0, 0), false},
	} {
		if got, ok := Value(x.a); got != x.want || ok != x.ok {
			t.Errorf("Value(%s) = %x, %t", toBig(x.a), got, ok)
		}
	}
}

// P5.1 Literal, of literals
func TestLiteral(t *testing.T) {
	zeros := strings.Repeat("0", 100000)
	for _, n := range samples() {
		if !isOfValue(n) {
			continue
		}
		for _, s := range []string{n.Text(10), "0" + n.Text(10), zeros + n.Text(10), "0x" + n.Text(16), "0x0" + n.Text(16), "0x" + zeros + n.Text(16)} {
			a, ok := Literal(s)
			if !ok || toBig(a).Cmp(n) != 0 {
				t.Fatalf("Literal of %d bytes ending in %s = %s, %t", len(s), n.Text(16), toBig(a), ok)
			}
		}
	}
	for _, x := range []struct {
		s    string
		want api.Value
	}{
		{"0", v(0, 0)},
		{"00", v(0, 0)},
		{"007", v(0, 7)},
		{"10", v(0, 10)},
		{"0123456789", v(0, 123456789)},
		{"0x0", v(0, 0)},
		{"0x10", v(0, 16)},
		{"0x00ff", v(0, 255)},
		{"0x0123456789abcdef", v(0, 0x0123456789abcdef)},
		{"0xfedcba98765432100000000000000001", v(0xfedcba9876543210, 1)},
		{greatest, v(word, word)},
		{"0x" + strings.Repeat("f", 32), v(word, word)},
	} {
		a, ok := Literal(x.s)
		if got, fits := Value(a); !ok || !fits || got != x.want {
			t.Errorf("Literal(%q) = %x, %t", x.s, got, ok)
		}
	}
}

// P5.1 Literal, of texts that are no literals; R2: the number is zero then
func TestLiteralFalse(t *testing.T) {
	list := []string{"", "x", "0x", "00x1", "x1", "0x0x1", "1x1", "0X1", "0xA", "0xF", "0xg", "ff", "a", "1a", "-1", "-0", "+1", " 1", "1 ", "1 2", "0x 1", "0x-1", "1_000", "0x_1", "1.0", "1e3", "0b1", "0o7x", "٣", "１", "1\x00", "\x00", "\xff", "0x\xff",
		"340282366920938463463374607431768211456", "340282366920938463463374607431768211460", "1" + strings.Repeat("0", 39), "0x1" + strings.Repeat("0", 32), "0x" + strings.Repeat("f", 33), strings.Repeat("0", 100) + greatest + "0"}
	// A number of words that overflow to something small, and texts that are very long.
	for _, n := range []uint{128, 129, 160, 191, 192, 193, 256, 4096} {
		for d := range int64(3) {
			big := new(big.Int).Add(power(n), big.NewInt(d))
			list = append(list, big.Text(10), "0x"+big.Text(16), "000"+big.Text(10), "0x000"+big.Text(16))
		}
	}
	list = append(list, strings.Repeat("9", 1000000), "0x"+strings.Repeat("f", 1000000), "0x1"+strings.Repeat("0", 1000000), "1"+strings.Repeat("0", 1000000))
	for _, s := range list {
		if a, ok := Literal(s); ok || a != (Number{}) {
			t.Errorf("Literal of %d bytes, %.50q, = %s, %t", len(s), s, toBig(a), ok)
		}
	}
}

// P5.1 Literal, with every byte at every place of a literal
func TestLiteralBytes(t *testing.T) {
	isDigit := func(c byte) bool { return strings.IndexByte("0123456789", c) >= 0 }
	isHex := func(c byte) bool { return strings.IndexByte("0123456789abcdef", c) >= 0 }
	for i := range 256 {
		c := byte(i)
		for _, x := range []struct {
			s    string
			want bool
			base int
		}{
			{string([]byte{c}), isDigit(c), 10},
			{string([]byte{c, '5', '6'}), isDigit(c), 10},
			{string([]byte{'5', c, '6'}), isDigit(c), 10},
			{string([]byte{'5', '6', c}), isDigit(c), 10},
			{string([]byte{'0', c}), isDigit(c), 10},
			{string([]byte{'0', 'x', c}), isHex(c), 16},
			{string([]byte{'0', 'x', c, '5', '6'}), isHex(c), 16},
			{string([]byte{'0', 'x', '5', c, '6'}), isHex(c), 16},
			{string([]byte{'0', 'x', '5', '6', c}), isHex(c), 16},
		} {
			want := new(big.Int)
			if x.want {
				want.SetString(strings.TrimPrefix(x.s, "0x"), x.base)
			}
			if a, ok := Literal(x.s); ok != x.want || toBig(a).Cmp(want) != 0 {
				t.Errorf("Literal(%q) = %s, %t", x.s, toBig(a), ok)
			}
		}
		if _, ok := Literal(string([]byte{'0', c, '1'})); ok != (isDigit(c) || c == 'x') {
			t.Errorf("Literal with %q behind 0 is %t", c, ok)
		}
		if _, ok := Literal(string([]byte{c, 'x', '1'})); ok != (c == '0') {
			t.Errorf("Literal with %q ahead of x is %t", c, ok)
		}
	}
}

// P5.1 Text
func TestText(t *testing.T) {
	for _, n := range samples() {
		if got := Text(build(n)); got != n.String() {
			t.Errorf("Text(%s) = %s", n, got)
		}
	}
	for _, x := range []struct {
		a    Number
		want string
	}{
		{Of(0), "0"},
		{Neg(Of(0)), "0"},
		{Of(9), "9"},
		{Of(10), "10"},
		{Of(-10), "-10"},
		{Of(1000000), "1000000"},
		{Of(math.MinInt), "-9223372036854775808"},
		{From(v(word, word)), greatest},
		{Neg(From(v(word, word))), "-" + greatest},
		{Sub(Of(3), From(v(1, 0))), "-18446744073709551613"},
	} {
		if got := Text(x.a); got != x.want {
			t.Errorf("Text(%s) = %s", toBig(x.a), got)
		}
	}
}

// P5.2 Addition is commutative and associative, Sub is its inverse, and Compare(a, b) is the sign of Sub(a, b).
func TestLaws(t *testing.T) {
	var list []Number
	for i, n := range samples() {
		// Sums of three of these are in the range.
		if i%7 == 0 && n.BitLen() <= 188 {
			list = append(list, build(n))
		}
	}
	for _, a := range list {
		for _, b := range list {
			if Add(a, b) != Add(b, a) || Sub(Add(a, b), b) != a || Add(Sub(a, b), b) != a || Sub(a, b) != Add(a, Neg(b)) || Neg(Sub(a, b)) != Sub(b, a) {
				t.Fatalf("sums of %s and %s", Text(a), Text(b))
			}
			if Compare(a, b) != Compare(Sub(a, b), Of(0)) || Compare(a, b) != -Compare(b, a) {
				t.Fatalf("Compare(%s, %s)", Text(a), Text(b))
			}
			for _, c := range list {
				if Add(Add(a, b), c) != Add(a, Add(b, c)) {
					t.Fatalf("Add of %s, %s and %s", Text(a), Text(b), Text(c))
				}
			}
		}
	}
}

// P5.2 Literal(Text(a)) is a if a is from 0 to 2^128 - 1; there is no literal for other integers.
func TestLiteralOfText(t *testing.T) {
	for _, n := range samples() {
		a := build(n)
		got, ok := Literal(Text(a))
		if ok != isOfValue(n) || ok && got != a {
			t.Errorf("Literal(Text(%s)) = %s, %t", n, toBig(got), ok)
		}
	}
}

// The greatest results of the upper layers: sums of as many literals as a restriction can have.
func TestLongSums(t *testing.T) {
	ones := From(v(word, word))
	up, down := Of(0), Of(0)
	want := new(big.Int)
	for range api.MaxNodes {
		up, down = Add(up, ones), Sub(down, ones)
		want.Add(want, toBig(ones))
	}
	same(t, "a sum", up, want)
	same(t, "a difference", down, new(big.Int).Neg(want))
	if Compare(down, up) != -1 || Compare(up, ones) != 1 || Add(up, down) != Of(0) {
		t.Error("order of long sums")
	}
}

// R1: also for numbers outside the range every function ends without a panic.
func TestOutside(t *testing.T) {
	list := []Number{build(power(190)), Neg(build(power(190)))}
	for range 4 {
		for _, a := range list[:2] {
			list = append(list, Add(list[len(list)-1], a), Sub(list[len(list)-2], a), Add(a, Of(-1)))
		}
	}
	least := Add(list[1], list[1])
	list = append(list, least, Sub(least, Of(1)), Neg(least))
	for _, a := range list {
		if Text(a) == "" {
			t.Errorf("no text of %v", a)
		}
		Value(a)
		for _, b := range list {
			if order := Compare(a, b); order != -Compare(b, a) || (order == 0) != (a == b) {
				t.Errorf("Compare(%v, %v) = %d", a, b, order)
			}
			Sub(a, b)
		}
	}
}
