package lexer

import (
	"math/rand"
	"slices"
	"strings"
	"testing"
	"unsafe"

	"matchguard/api"
)

const greatest = "340282366920938463463374607431768211455" // 2^128 - 1

func TestKinds(t *testing.T) {
	if Literal != 1 || Name != 2 || Symbol != 3 {
		t.Errorf("kinds %d, %d, %d", Literal, Name, Symbol)
	}
}

// P6.1 Scan, of texts that it accepts
func TestScan(t *testing.T) {
	for _, x := range []struct {
		s    string
		want []Token
	}{
		{"", nil},
		{" ", nil},
		{"     ", nil},
		{"a::mask!=0x1f", []Token{{Name, "a", 0}, {Symbol, "::", 1}, {Name, "mask", 3}, {Symbol, "!=", 7}, {Literal, "0x1f", 9}}},
		{"!a && b -> c", []Token{{Symbol, "!", 0}, {Name, "a", 1}, {Symbol, "&&", 3}, {Name, "b", 6}, {Symbol, "->", 8}, {Name, "c", 11}}},
		{"  d::prefix_length>=8  ", []Token{{Name, "d", 2}, {Symbol, "::", 3}, {Name, "prefix_length", 5}, {Symbol, ">=", 18}, {Literal, "8", 20}}},
		{"()!&&||->==!=<<=>>=+-::", []Token{{Symbol, "(", 0}, {Symbol, ")", 1}, {Symbol, "!", 2}, {Symbol, "&&", 3}, {Symbol, "||", 5}, {Symbol, "->", 7}, {Symbol, "==", 9}, {Symbol, "!=", 11}, {Symbol, "<", 13}, {Symbol, "<=", 14}, {Symbol, ">", 16}, {Symbol, ">=", 17}, {Symbol, "+", 19}, {Symbol, "-", 20}, {Symbol, "::", 21}}},
		{"- > ! <", []Token{{Symbol, "-", 0}, {Symbol, ">", 2}, {Symbol, "!", 4}, {Symbol, "<", 6}}},
		{"!===", []Token{{Symbol, "!=", 0}, {Symbol, "==", 2}}},
		{"-->>=", []Token{{Symbol, "-", 0}, {Symbol, "->", 1}, {Symbol, ">=", 3}}},
		{"<<=", []Token{{Symbol, "<", 0}, {Symbol, "<=", 1}}},
		{"true false priority", []Token{{Name, "true", 0}, {Name, "false", 5}, {Name, "priority", 11}}},
		{"a_ a__b a0 x1f z", []Token{{Name, "a_", 0}, {Name, "a__b", 3}, {Name, "a0", 8}, {Name, "x1f", 11}, {Name, "z", 15}}},
		{"0 00 007 0x0 0x00ff 9", []Token{{Literal, "0", 0}, {Literal, "00", 2}, {Literal, "007", 5}, {Literal, "0x0", 9}, {Literal, "0x00ff", 13}, {Literal, "9", 20}}},
		{"-1", []Token{{Symbol, "-", 0}, {Literal, "1", 1}}},
		{"a-1+b", []Token{{Name, "a", 0}, {Symbol, "-", 1}, {Literal, "1", 2}, {Symbol, "+", 3}, {Name, "b", 4}}},
		{greatest, []Token{{Literal, greatest, 0}}},
		{" 0x" + strings.Repeat("f", 32), []Token{{Literal, "0x" + strings.Repeat("f", 32), 1}}},
	} {
		scanned(t, x.s)
		got, n, e := Scan(x.s)
		if !slices.Equal(got, x.want) || n != 0 || e != api.OK {
			t.Errorf("Scan(%q) = %v, %d, %d", x.s, got, n, e)
		}
	}
}

// P6.1 Scan, of texts with a byte at which nothing begins; R2: there are no tokens then
func TestScanParse(t *testing.T) {
	for _, x := range []struct {
		s  string
		at int
	}{
		{"&", 0}, {"|", 0}, {"=", 0}, {":", 0},
		{"a & b", 2}, {"a && &", 5}, {"&&&", 2}, {"a | b", 2}, {"|||", 2}, {"a = b", 2}, {"===", 2}, {"<<==>", 3}, {"=>", 0}, {"a : b", 2}, {":::", 2}, {"& &", 0}, {"| |", 0}, {": :", 0}, {"= =", 0},
		{"_", 0}, {"_a", 0}, {"a + _b", 4}, {"_1", 0}, {"__", 0}, {"a_ _a", 3}, {"a::_", 3},
		{"1a", 0}, {"1_", 0}, {"1_000", 0}, {"0x", 0}, {"0xg", 0}, {"00x1", 0}, {"a + 0x", 4}, {"0x_1", 0}, {"a == 1b", 5}, {"0x1x", 0}, {"0b1", 0}, {"1e3", 0},
		{"340282366920938463463374607431768211456", 0}, {" 0x1" + strings.Repeat("0", 32), 1}, {"a " + strings.Repeat("9", 300), 2},
		// Where a word begins is told ahead of what is wrong behind it.
		{"0xFF", 0}, {"_A", 0}, {"aB", 1}, {"1B", 1}, {"0x1F", 3}, {"A", 0}, {"aA_", 1}, {"a.b", 1}, {"1.0", 1},
		{"a\tb", 1}, {"a\nb", 1}, {"\r", 0}, {"\v", 0}, {"\x00", 0}, {"a\x00", 1}, {"\x1f", 0}, {"a \x7f", 2}, {"a\xa0b", 1}, {"\x85", 0}, {"\xff", 0}, {"é", 0}, {"aé", 1}, {"1٣", 1}, {"a ≤ b", 2}, {"\u2003", 0},
		{"$ _ 1a A", 0}, {"a $ _ 1a A", 2}, {"a 1a _ $", 2}, {"a _ 1a $", 2}, {strings.Repeat(" ", 399) + "$", 399}, {strings.Repeat("!", 399) + "&", 399},
	} {
		scanned(t, x.s)
		if l, n, e := Scan(x.s); len(l) != 0 || n != x.at || e != api.ErrParse {
			t.Errorf("Scan(%q) = %v, %d, %d", x.s, l, n, e)
		}
	}
}

// P6.1 Scan, of texts of MaxText bytes and of longer ones, which are too long whatever they contain
func TestScanLimit(t *testing.T) {
	for _, x := range []struct {
		part   string
		tokens int
	}{{"a", 1}, {"0", 1}, {" ", 0}, {"!", 400}, {"::", 200}, {"a ", 200}, {"0x0 ", 100}} {
		s := strings.Repeat(x.part, 400/len(x.part))
		scanned(t, s)
		if l, n, e := Scan(s); len(l) != x.tokens || n != 0 || e != api.OK {
			t.Errorf("Scan of 400 bytes, %.8q, = %d tokens, %d, %d", s, len(l), n, e)
		}
		for _, more := range []string{"a", " ", "$", "_", "\xff", strings.Repeat("b", 100000)} {
			for _, long := range []string{s + more, more + s} {
				if l, n, e := Scan(long); len(l) != 0 || n != 0 || e != api.ErrLimit {
					t.Errorf("Scan of %d bytes, %.8q, = %d tokens, %d, %d", len(long), long, len(l), n, e)
				}
			}
		}
	}
}

// P6.1 Scan, with every byte, and every pair of bytes, at several places
func TestScanBytes(t *testing.T) {
	for i := range 256 {
		c := string([]byte{byte(i)})
		for _, s := range []string{c, "a" + c, c + "a", "a" + c + "b", "a " + c + " b", "1" + c, c + "1", "0x" + c, "0x" + c + "1", "_" + c, "(" + c + ")", " " + c + "_"} {
			scanned(t, s)
		}
		for k := range 256 {
			scanned(t, c+string([]byte{byte(k)}))
		}
	}
}

// each calls f with every text of at most n of the parts.
func each(parts []string, n int, f func(s string)) {
	f("")
	if n == 0 {
		return
	}
	for _, part := range parts {
		each(parts, n-1, func(s string) { f(part + s) })
	}
}

// P6.1 Scan, P6.2, for all short texts
func TestScanShort(t *testing.T) {
	check := func(s string) { scanned(t, s) }
	each(strings.Split("()!&|-=<>+:a ", ""), 4, check)
	each(strings.Split("axfg019_ F-", ""), 4, check)
	each([]string{"a", "0x1f", "7", "_", " ", "!", "=", "<", "::", "->", "||", "&&", "$", "\n"}, 4, check)
}

// P6.1 Scan, P6.2, for texts of many tokens and spaces, some with another byte
func TestScanLong(t *testing.T) {
	random := rand.New(rand.NewSource(6))
	parts := []string{"(", ")", "!", "&&", "||", "->", "==", "!=", "<", "<=", ">", ">=", "+", "-", "::", " ", " ", "   ", "a", "priority", "dst_addr", "x9", "0", "0042", "0xbeef", greatest, " true ", " false "}
	for range 20000 {
		var s []byte
		for range random.Intn(90) {
			s = append(s, parts[random.Intn(len(parts))]...)
		}
		scanned(t, string(s))
		if len(s) > 0 {
			s[random.Intn(len(s))] = byte(random.Intn(256))
			scanned(t, string(s))
		}
	}
}

// P6.1 Join
func TestJoin(t *testing.T) {
	for _, x := range []struct {
		l    []Token
		want string
	}{
		{nil, ""},
		{[]Token{}, ""},
		{[]Token{{Name, "a", 0}}, "a"},
		{[]Token{{Name, "a", 7}, {Symbol, "::", 9}, {Name, "b", 30}}, "a :: b"},
		{[]Token{{Symbol, "!", 0}, {Symbol, "=", 1}}, "! ="},
		// Lists that Scan does not return are joined, too.
		{[]Token{{}}, ""},
		{[]Token{{}, {}, {}}, "  "},
		{[]Token{{-5, "a b", -1}, {99, " ", 0}, {0, "\xff\n", 1 << 62}}, "a b   \xff\n"},
	} {
		before := slices.Clone(x.l)
		if got := Join(x.l); got != x.want {
			t.Errorf("Join(%v) = %q", x.l, got)
		}
		if !slices.Equal(x.l, before) {
			t.Errorf("Join changed %v to %v", before, x.l)
		}
	}
	l, _, _ := Scan("a::mask!=0x1f  &&( b<= 7 )")
	if got := Join(l); got != "a :: mask != 0x1f && ( b <= 7 )" {
		t.Errorf("Join = %q", got)
	}
	if got := Join(make([]Token, 100001)); got != strings.Repeat(" ", 100000) {
		t.Errorf("Join of many tokens has %d bytes", len(got))
	}
}

// R3: results share no memory with arguments, with each other, or with what the program keeps.
func TestFresh(t *testing.T) {
	s := strings.Clone("a <= 0x1f")
	want, _, _ := expected(s)
	first, _, _ := Scan(s)
	second, _, _ := Scan(s)
	for i, x := range first {
		if overlap(x.Text, s) || overlap(x.Text, second[i].Text) {
			t.Errorf("the token %v shares memory", x)
		}
		first[i] = Token{Symbol, "other", 99}
	}
	if !slices.Equal(second, want) {
		t.Errorf("the change of a result made the other one %v", second)
	}
	if again, _, _ := Scan(s); !slices.Equal(again, want) {
		t.Errorf("the change of a result made the next one %v", again)
	}
	if overlap(Join(second[:1]), second[0].Text) {
		t.Error("Join shares memory with a token")
	}
}

// overlap reports whether two texts have a byte of memory in common.
func overlap(a, b string) bool {
	begin := func(s string) uintptr { return uintptr(unsafe.Pointer(unsafe.StringData(s))) }
	return begin(a) < begin(b)+uintptr(len(b)) && begin(b) < begin(a)+uintptr(len(a))
}
