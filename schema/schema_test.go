package schema

import (
	"bytes"
	"math"
	"math/rand"
	"reflect"
	"strings"
	"testing"

	"matchguard/api"
	"matchguard/value"
)

// zero is what Decode returns with an error.
var zero api.Schema

// equal compares schemas without package schema; nil and empty lists are different to it.
func equal(a, b api.Schema) bool {
	return reflect.DeepEqual(a, b)
}

// encoded returns the encoding of a schema that is known to have one.
func encoded(t *testing.T, s api.Schema) []byte {
	t.Helper()
	b, code := Encode(s)
	if code != api.OK {
		t.Fatalf("Encode: %d", code)
	}
	return b
}

// changed returns full(2) after a change of one place of it.
func changed(i int, change func(p place)) api.Schema {
	s := full(2)
	change(places(&s)[i])
	return s
}

// each calls do for each place of full(2) that has this content ("[]" stands for all lists), with its number.
func each(what string, do func(i int, p place)) {
	s := full(2)
	for i, p := range places(&s) {
		if p.part.what == what || what == "[]" && strings.HasPrefix(p.part.what, "[]") {
			do(i, p)
		}
	}
}

// checkEncode checks what Encode returns, that the result of an encodable schema is decoded to it, and that the argument stays as it is.
func checkEncode(t *testing.T, name string, build func() api.Schema, want api.Errno) {
	t.Helper()
	s := build()
	b, code := Encode(s)
	wantBytes, _ := expected(s)
	if code != want || !bytes.Equal(b, wantBytes) {
		t.Errorf("%q: %d, not %d: %.60x", name, code, want, b)
	}
	if !equal(s, build()) {
		t.Errorf("%q: Encode changes its argument", name)
	}
	if code != api.OK {
		return
	}
	if r, code := Decode(b); code != api.OK || !Same(r, s) || !Same(s, r) {
		t.Errorf("%q: Decode: %d", name, code)
	}
}

// P3.1 Encode: the example, and one with an element in each list, written by hand.
func TestEncodeByHand(t *testing.T) {
	b := encoded(t, api.Schema{MaxBatch: 1, Budget: 2})
	if want := append([]byte{0, 1, 0, 2}, make([]byte, 16)...); !bytes.Equal(b, want) {
		t.Errorf("the empty schema: %x", b)
	}
	s := api.Schema{
		MaxBatch: 0x0102, Budget: 0x0304,
		Fields:  []api.Field{{ID: 0x0506, Name: "f", Bits: 7}},
		Headers: []api.Header{{ID: 0x0809, Name: "h", Fields: []int{0x0a0b}}},
		States:  []api.State{{ID: 0x0c0d, Header: 0x0e0f, Select: 0x1011, Cases: []api.Case{{Value: value.Of(0x12), Mask: value.Of(0x1314), Next: 0x1516}}, Default: 0x1718}},
		Actions: []api.Action{{ID: 0x191a, Name: "a", Params: []api.Param{{Name: "p", Bits: 0x1b}}, Body: []api.Prim{{Op: 0x1c, Dst: 0x1d1e, Src: api.Operand{Kind: 0x1f, N: 0x2021, Value: value.Of(0x22)}}}, Restriction: "r"}},
		Tables:  []api.Table{{ID: 0x2324, Name: "t", Keys: []api.Key{{Name: "k", Field: 0x2526, Kind: 0x27}}, Actions: []int{0x2829}, Default: 0x2a2b, DefaultArgs: []api.Value{value.Of(0x2c)}, Size: 0x2d2e, Restriction: "s"}},
		Stages:  []api.Stage{{Table: 0x2f30, Header: 0x3132}},
		Roles:   []api.Role{{ID: 0x3334, Name: "o", Grants: []api.Grant{{Table: 0x3536, Read: true, Write: false, Keys: []bool{true}}}, Actions: []int{0x3738}, Quota: 0x393a, Audit: true}},
		Refs:    []api.Ref{{Table: 0x3b3c, Key: 0x3d, Action: 0x3e3f, Param: 0x40, ToTable: 0x4142, ToKey: 0x43}},
	}
	want := []byte{
		1, 2, 3, 4,
		0, 1, 5, 6, 0, 1, 'f', 7,
		0, 1, 8, 9, 0, 1, 'h', 0, 1, 10, 11,
		0, 1, 12, 13, 14, 15, 16, 17, 0, 1, 1, 18, 2, 19, 20, 21, 22, 23, 24,
		0, 1, 25, 26, 0, 1, 'a', 0, 1, 0, 1, 'p', 27, 0, 1, 28, 29, 30, 31, 32, 33, 1, 34, 0, 1, 'r',
		0, 1, 35, 36, 0, 1, 't', 0, 1, 0, 1, 'k', 37, 38, 39, 0, 1, 40, 41, 42, 43, 0, 1, 1, 44, 45, 46, 0, 1, 's',
		0, 1, 47, 48, 49, 50,
		0, 1, 51, 52, 0, 1, 'o', 0, 1, 53, 54, 1, 0, 0, 1, 1, 0, 1, 55, 56, 57, 58, 1,
		0, 1, 59, 60, 61, 62, 63, 64, 65, 66, 67,
	}
	if b := encoded(t, s); !bytes.Equal(b, want) {
		t.Errorf("%x, not %x", b, want)
	}
	if got, code := Decode(want); code != api.OK || !equal(got, s) {
		t.Errorf("Decode: %+v, %d", got, code)
	}
}

// P3.1 Encode and P3.2: schemas with few and with many elements, and with random ones.
func TestEncode(t *testing.T) {
	checkEncode(t, "none", func() api.Schema { return full(0) }, api.OK)
	checkEncode(t, "one", func() api.Schema { return full(1) }, api.OK)
	checkEncode(t, "two", func() api.Schema { return full(2) }, api.OK)
	checkEncode(t, "three", func() api.Schema { return full(3) }, api.OK)
	codes := map[api.Errno]int{}
	for seed := range int64(200) {
		s := random(rand.New(rand.NewSource(seed)))
		_, want := expected(s)
		codes[want]++
		checkEncode(t, "a random schema", func() api.Schema { return random(rand.New(rand.NewSource(seed))) }, want)
	}
	if codes[api.OK] < 100 || codes[api.ErrLimit] < 10 {
		t.Errorf("the random schemas are not diverse enough: %v", codes)
	}
}

// random returns a schema with lists, texts and numbers within their limits.
func random(r *rand.Rand) api.Schema {
	var s api.Schema
	share := r.Intn(5)
	length := func(most int) int {
		if share == 0 {
			return most - r.Intn(most/3+1)
		}
		return r.Intn(most/share + 1)
	}
	fill(part{"", "Schema", 0}, reflect.ValueOf(&s).Elem(), length, func(p part, v reflect.Value) {
		switch p.what {
		case "number":
			v.SetInt([]int64{0, 1, 255, 256, 65535, r.Int63n(65536)}[r.Intn(6)])
		case "small":
			v.SetInt([]int64{0, 1, 127, 128, 255, r.Int63n(256)}[r.Intn(6)])
		case "truth":
			v.SetBool(r.Intn(2) == 1)
		case "value":
			v.Set(reflect.ValueOf(value.Right(api.Value{Hi: r.Uint64(), Lo: r.Uint64()}, r.Intn(129))))
		case "text":
			x := make([]byte, length(p.most))
			for i := range x {
				x[i] = byte(32 + r.Intn(95))
			}
			v.SetString(string(x))
		}
	})
	return s
}

// P3.1 Encode: every number at and behind the ends of its range.
func TestEncodeNumbers(t *testing.T) {
	for what, most := range map[string]int64{"number": 65535, "small": 255} {
		each(what, func(i int, p place) {
			for n, want := range map[int64]api.Errno{
				0: api.OK, 1: api.OK, most - 1: api.OK, most: api.OK,
				-1: api.ErrArg, most + 1: api.ErrArg, -most: api.ErrArg, 1 << 32: api.ErrArg, math.MinInt64: api.ErrArg, math.MaxInt64: api.ErrArg,
			} {
				checkEncode(t, p.path, func() api.Schema { return changed(i, func(p place) { p.v.SetInt(n) }) }, want)
			}
		})
	}
}

// P3.1 Encode: every truth value and value.
func TestEncodeValues(t *testing.T) {
	each("truth", func(i int, p place) {
		for _, x := range []bool{false, true} {
			checkEncode(t, p.path, func() api.Schema { return changed(i, func(p place) { p.v.SetBool(x) }) }, api.OK)
		}
	})
	each("value", func(i int, p place) {
		for _, x := range []api.Value{{}, value.Of(255), value.Of(256), {Hi: 1}, value.Ones(128)} {
			checkEncode(t, p.path, func() api.Schema { return changed(i, func(p place) { p.v.Set(reflect.ValueOf(x)) }) }, api.OK)
		}
	})
}

// P3.1 Encode: the length of every text, and the bytes in it; all bytes in the first text, those at the ends of the range in every one.
func TestEncodeTexts(t *testing.T) {
	first := true
	each("text", func(i int, p place) {
		check := func(x string, want api.Errno) {
			checkEncode(t, p.path+" is "+x, func() api.Schema { return changed(i, func(p place) { p.v.SetString(x) }) }, want)
		}
		check("", api.OK)
		check(strings.Repeat("x", p.part.most), api.OK)
		check(strings.Repeat("x", p.part.most+1), api.ErrLimit)
		check("a\xc3\xbcb", api.ErrForm)
		for c := range 256 {
			if !first && c != 31 && c != 32 && c != 126 && c != 127 {
				continue
			}
			want := api.OK
			if c < 32 || c > 126 {
				want = api.ErrForm
			}
			check(string([]byte{'a', byte(c)}), want)
			check(string([]byte{byte(c), 'a'}), want)
		}
		first = false
	})
}

// P3.1 Encode: the length of every list.
func TestEncodeLists(t *testing.T) {
	each("[]", func(i int, p place) {
		for n, want := range map[int]api.Errno{0: api.OK, 1: api.OK, p.part.most: api.OK, p.part.most + 1: api.ErrLimit} {
			checkEncode(t, p.path, func() api.Schema {
				return changed(i, func(p place) { p.v.Set(reflect.MakeSlice(p.v.Type(), n, n)) })
			}, want)
		}
	})
}

// P3.1 Encode: lengths whose two low bytes are within the limit.
func TestEncodeHuge(t *testing.T) {
	for _, s := range []api.Schema{
		{Fields: make([]api.Field, 65536)},
		{Roles: []api.Role{{Actions: make([]int, 65536+1)}}},
		{Refs: make([]api.Ref, 1<<20)},
		{Tables: []api.Table{{Name: strings.Repeat("x", 65536)}}},
		{Tables: []api.Table{{Restriction: strings.Repeat("x", 65536+2)}}},
	} {
		if b, code := Encode(s); code != api.ErrLimit || len(b) > 0 {
			t.Errorf("%d", code)
		}
	}
}

// P3.1 Encode: of several errors, the one that is listed first; wherever they are.
func TestEncodeOrder(t *testing.T) {
	type spoil struct {
		code api.Errno
		what string
		do   func(p place)
	}
	// in the order of the chapter
	spoils := []spoil{
		{api.ErrLimit, "[]", func(p place) { p.v.Set(reflect.AppendSlice(p.v, reflect.MakeSlice(p.v.Type(), 33, 33))) }},
		{api.ErrLimit, "text", func(p place) { p.v.SetString(strings.Repeat("x", 401)) }},
		{api.ErrForm, "text", func(p place) { p.v.SetString("\x7f") }},
		{api.ErrArg, "number", func(p place) { p.v.SetInt(65536) }},
		{api.ErrArg, "small", func(p place) { p.v.SetInt(-1) }},
	}
	for i, first := range spoils {
		for _, second := range spoils[i:] {
			for _, at := range ends(first.what) {
				for _, bt := range ends(second.what) {
					s := full(2)
					all := places(&s)
					second.do(all[bt])
					first.do(all[at])
					if b, code := Encode(s); code != first.code || len(b) > 0 {
						t.Errorf("%s and %s: %d, not %d", all[at].path, all[bt].path, code, first.code)
					}
				}
			}
		}
	}
	// The length of the encoding comes last.
	model := full(2)
	for _, x := range spoils {
		for _, at := range ends(x.what) {
			path := places(&model)[at].path
			s := sized(t, 8001)
			for _, p := range places(&s) {
				if p.path == path {
					x.do(p)
				}
			}
			if b, code := Encode(s); code != x.code || len(b) > 0 {
				t.Errorf("%s in a long encoding: %d, not %d", path, code, x.code)
			}
		}
	}
}

// ends returns the numbers of the first and the last place of full(2) with this content.
func ends(what string) []int {
	var all []int
	each(what, func(i int, p place) { all = append(all, i) })
	return []int{all[0], all[len(all)-1]}
}

// sized returns a schema whose encoding has that many bytes: full(2) with more actions and tables and longer restrictions.
func sized(t *testing.T, n int) api.Schema {
	t.Helper()
	s := full(2)
	long := strings.Repeat("x", api.MaxText)
	s.Actions[0].Restriction, s.Actions[1].Restriction = long, long
	for len(s.Actions) < api.MaxActions {
		s.Actions = append(s.Actions, api.Action{Restriction: long})
	}
	for len(s.Tables) < api.MaxTables {
		s.Tables = append(s.Tables, api.Table{})
	}
	for i := range s.Tables {
		unlimited := encodedLength(s)
		s.Tables[i].Restriction = long[:min(api.MaxText, max(0, n-unlimited+len(s.Tables[i].Restriction)))]
	}
	if got := encodedLength(s); got != n {
		t.Fatalf("a schema of %d bytes has %d", n, got)
	}
	return s
}

// encodedLength is the length of an encoding, also of one that is too long.
func encodedLength(s api.Schema) int {
	n := 0
	for _, p := range places(&s) {
		n += width(p)
	}
	return n
}

// P3.1 Encode, Decode: the length of an encoding.
func TestLongest(t *testing.T) {
	b := encoded(t, sized(t, 8000))
	if len(b) != 8000 {
		t.Errorf("8000 bytes: %d", len(b))
	}
	if s, code := Decode(b); code != api.OK || !equal(s, sized(t, 8000)) {
		t.Errorf("Decode of 8000 bytes: %d", code)
	}
	for _, n := range []int{8001, 8002, 8400} {
		if b, code := Encode(sized(t, n)); code != api.ErrLimit || len(b) > 0 {
			t.Errorf("Encode of %d bytes: %d", n, code)
		}
	}
	// an encoding but for its length; one with a byte too many; some that are none for other reasons, which come second
	long := bytes.Clone(b)
	long[bytes.Index(b, []byte("xxx"))-1]--
	for _, x := range [][]byte{append(bytes.Clone(b), 0), append(long, 0, 0), make([]byte, 8001), bytes.Repeat([]byte{255}, 9000), make([]byte, 100000)} {
		if s, code := Decode(x); code != api.ErrLimit || !equal(s, zero) {
			t.Errorf("Decode of %d bytes: %d", len(x), code)
		}
	}
}

// checkDecode compares Decode with the chapter, and its result with P3.2; it returns the error.
func checkDecode(t *testing.T, b []byte) api.Errno {
	t.Helper()
	before := bytes.Clone(b)
	s, code := Decode(b)
	want, wantCode := parsed(b)
	if code != wantCode || !Same(s, want) || code != api.OK && !equal(s, zero) {
		t.Errorf("%.40x: %d, not %d", b, code, wantCode)
	}
	if !bytes.Equal(b, before) {
		t.Errorf("%.40x: Decode changes its argument", before)
	}
	if code != api.OK {
		return code
	}
	if again, code := Encode(s); code != api.OK || !bytes.Equal(again, b) {
		t.Errorf("%.40x: Encode of what was decoded: %d, %.40x", b, code, again)
	}
	return api.OK
}

// P3.1 Decode: what is too short or too long.
func TestDecodeLength(t *testing.T) {
	if _, code := Decode(nil); code != api.ErrShort {
		t.Errorf("nil: %d", code)
	}
	b := encoded(t, full(2))
	for n := range len(b) {
		if code := checkDecode(t, b[:n]); code != api.ErrShort {
			t.Errorf("%d bytes of %d: %d", n, len(b), code)
		}
	}
	for _, more := range [][]byte{{0}, {255}, b} {
		if code := checkDecode(t, append(bytes.Clone(b), more...)); code != api.ErrForm {
			t.Errorf("%d bytes more: %d", len(more), code)
		}
	}
}

// P3.1 Decode and P3.2: each byte of an encoding becomes another one.
func TestDecodeChanges(t *testing.T) {
	codes := map[api.Errno]int{}
	good := encoded(t, full(2))
	for i := range good {
		for _, x := range []byte{0, 1, 2, 3, 4, 5, 6, 7, 8, 9, 12, 13, 16, 17, 24, 25, 31, 32, 33, 126, 127, 128, 255, good[i] + 1, good[i] - 1} {
			b := bytes.Clone(good)
			b[i] = x
			codes[checkDecode(t, b)]++
		}
	}
	for _, code := range []api.Errno{api.OK, api.ErrShort, api.ErrForm, api.ErrLimit, api.ErrValue} {
		if codes[code] == 0 {
			t.Errorf("no change has the error %d: %v", code, codes)
		}
	}
	if len(codes) != 5 {
		t.Errorf("there are other errors: %v", codes)
	}
}

// P3.1 Decode: each list and text has its limit, each truth value, value and text its form. An encoding ends with one place that is spoilt: behind it much is missing, but its error comes first.
func TestDecodeParts(t *testing.T) {
	s := full(1)
	good := encoded(t, s)
	at := 0
	for _, p := range places(&s) {
		check := func(want api.Errno, spoilt ...byte) {
			t.Helper()
			if code := checkDecode(t, append(bytes.Clone(good[:at]), spoilt...)); code != want {
				t.Errorf("%s is %x: %d, not %d", p.path, spoilt, code, want)
			}
		}
		most := p.part.most
		switch p.part.what {
		case "number":
			check(api.ErrShort, 255)
		case "small":
			check(api.ErrShort)
		case "truth":
			check(api.ErrForm, 2)
			check(api.ErrForm, 255)
		case "value":
			check(api.ErrForm, 0)
			check(api.ErrForm, 17)
			check(api.ErrShort, 2, 1)
			check(api.ErrValue, 2, 0, 1)
		case "text":
			check(api.ErrLimit, byte((most+1)>>8), byte(most+1))
			check(api.ErrShort, byte(most>>8), byte(most))
			check(api.ErrForm, 0, 1, 31)
			check(api.ErrForm, 0, 2, 'a', 127)
		default:
			check(api.ErrLimit, byte((most+1)>>8), byte(most+1))
			check(api.ErrLimit, 255, 255)
			check(api.ErrShort, byte(most>>8), byte(most))
		}
		at += width(p)
	}
	if at != len(good) {
		t.Errorf("the places have %d bytes of %d", at, len(good))
	}
}

// P3.2: a schema that was decoded need not make sense.
func TestNoSense(t *testing.T) {
	s := api.Schema{
		Tables: []api.Table{{ID: 7, Name: "same", Default: 9}, {ID: 7, Name: "same", Keys: []api.Key{{Field: 65535, Kind: 255}}}},
		Refs:   []api.Ref{{Table: 7, ToTable: 7}, {}},
		Budget: 65535,
	}
	if r, code := Decode(encoded(t, s)); code != api.OK || !Same(r, s) {
		t.Errorf("%+v, %d", r, code)
	}
}

// P3.1 Same
func TestSame(t *testing.T) {
	if !Same(zero, zero) || !Same(full(2), full(2)) || Same(full(2), full(1)) || Same(full(0), full(1)) {
		t.Error("equal or different lengths of lists")
	}
	s := full(2)
	for i, p := range places(&s) {
		other := changed(i, func(p place) {
			switch p.part.what {
			case "number", "small":
				// so different that they have the same encoding, if they had one
				p.v.SetInt(p.v.Int() + 1<<16)
			case "truth":
				p.v.SetBool(!p.v.Bool())
			case "value":
				v := p.v.Interface().(api.Value)
				v.Hi ^= 1 << 63
				p.v.Set(reflect.ValueOf(v))
			case "text":
				p.v.SetString(p.v.String() + "\x00")
			default:
				p.v.Set(p.v.Slice(0, 1))
			}
		})
		if Same(s, other) || Same(other, s) {
			t.Errorf("%s is different", p.path)
		}
		same := changed(i, func(p place) {})
		if !Same(s, same) {
			t.Errorf("%s is equal", p.path)
		}
	}
}

// P3.1 Same and R5: nil and empty lists are equal, at every place; an empty list and one with a zero element are not.
func TestSameEmpty(t *testing.T) {
	each("[]", func(i int, p place) {
		zeros := func(n int) api.Schema {
			return changed(i, func(p place) { p.v.Set(reflect.MakeSlice(p.v.Type(), n, n)) })
		}
		none := changed(i, func(p place) { p.v.SetZero() })
		if !Same(none, zeros(0)) || !Same(zeros(0), none) {
			t.Errorf("%s: nil and empty", p.path)
		}
		if Same(none, zeros(1)) || Same(zeros(1), none) || Same(zeros(1), zeros(2)) {
			t.Errorf("%s: lists with zeros", p.path)
		}
	})
}

// P3.1 Same: schemas that cannot be encoded are compared too.
func TestSameAnything(t *testing.T) {
	long := func(last int) api.Schema {
		s := api.Schema{Budget: -1, Refs: make([]api.Ref, 70000)}
		s.Refs[69999].ToKey = last
		return s
	}
	if !Same(long(7), long(7)) || Same(long(7), long(8)) {
		t.Error("long lists")
	}
}

// R3: what Decode returns shares no memory with its argument or another result, nor its lists with each other.
func TestDecodeShares(t *testing.T) {
	b := encoded(t, full(2))
	s, _ := Decode(b)
	clear(b)
	if !equal(s, full(2)) {
		t.Error("the result changes with the argument")
	}
	b = encoded(t, full(2))
	model := full(2)
	for i := range places(&model) {
		change := func(p place) {
			switch p.part.what {
			case "number", "small":
				p.v.SetInt(-5)
			case "truth":
				p.v.SetBool(!p.v.Bool())
			case "value":
				p.v.Set(reflect.ValueOf(value.Ones(128)))
			case "text":
				p.v.SetString("other")
			default:
				p.v.Set(reflect.Append(p.v, reflect.Zero(p.v.Type().Elem())))
			}
		}
		one, _ := Decode(b)
		two, _ := Decode(b)
		change(places(&one)[i])
		if !equal(one, changed(i, change)) || !equal(two, model) {
			t.Errorf("place %d is shared", i)
		}
	}
}

// R3: each result of Encode has memory of its own.
func TestEncodeShares(t *testing.T) {
	s := full(2)
	one, two := encoded(t, s), encoded(t, s)
	want := bytes.Clone(two)
	clear(one)
	if !bytes.Equal(two, want) || !bytes.Equal(encoded(t, s), want) {
		t.Error("a result changes with another one")
	}
	if !equal(s, full(2)) {
		t.Error("the argument changes with a result")
	}
}
