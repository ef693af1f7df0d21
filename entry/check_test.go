package entry

import (
	"math"
	"slices"
	"testing"

	"matchguard/api"
	"matchguard/check"
	"matchguard/types"
)

func wellFormed(s api.Schema) bool {
	return check.Check(s) == api.OK && types.All(s) == api.OK
}

func TestSamples(t *testing.T) {
	if s := sample(); !wellFormed(s) {
		t.Errorf("the sample has the errors %d, %d", check.Check(s), types.All(s))
	}
	for _, kind := range kinds {
		if s := withKeys([]int{kind, api.Exact}, []int{1, 128}); !wellFormed(s) {
			t.Errorf("the schema with the Kind %d has the errors %d, %d", kind, check.Check(s), types.All(s))
		}
	}
}

// host, route and mixed are entries of the tables of sample with the action plain.
func host(m ...api.Match) api.Entry {
	return api.Entry{Table: 10, Matches: m, Action: 20}
}
func route(m, d api.Match) api.Entry {
	return api.Entry{Table: 11, Matches: []api.Match{m, d}, Action: 20}
}
func mixed(priority int, m ...api.Match) api.Entry {
	return api.Entry{Table: 12, Matches: m, Priority: priority, Action: 20}
}

func with(e api.Entry, priority int) api.Entry {
	e.Priority = priority
	return e
}

// P10.1 CheckKey: the table, the number of matches, and the priority
func TestCheckKey(t *testing.T) {
	s := sample()
	fine := []api.Match{ternary(5, 7), between(3, 9), exact(1), prefix(0, 1)}
	for i, x := range []struct {
		e    api.Entry
		want api.Errno
	}{
		{host(exact(0)), api.OK}, {host(exact(math.MaxUint32)), api.OK}, {host(exact(1 << 32)), api.ErrValue},
		{route(exact(7), none()), api.OK}, {route(exact(8), none()), api.ErrValue}, {mixed(1, fine...), api.OK},
		{mixed(9, none(), none(), exact(0), none()), api.OK},
		// ErrUnknown
		{api.Entry{}, api.ErrUnknown}, {api.Entry{Table: 9, Matches: []api.Match{exact(1)}}, api.ErrUnknown}, {api.Entry{Table: -1}, api.ErrUnknown}, {api.Entry{Table: 1, Matches: fine, Priority: 1}, api.ErrUnknown}, {api.Entry{Table: 20}, api.ErrUnknown}, {api.Entry{Table: math.MaxInt}, api.ErrUnknown},
		// ErrKind for the number of matches, whatever they are
		{host(), api.ErrKind}, {host(exact(1), exact(1)), api.ErrKind}, {host(exact(1), none()), api.ErrKind}, {host(exact(1<<32), none()), api.ErrKind}, {with(host(), 1), api.ErrKind},
		{mixed(1, fine[:3]...), api.ErrKind}, {mixed(1, append(slices.Clone(fine), none())...), api.ErrKind}, {mixed(1), api.ErrKind}, {mixed(0, fine[:3]...), api.ErrKind}, {api.Entry{Table: 12, Matches: make([]api.Match, 100000)}, api.ErrKind},
		// Bits and Kind are those of the match's own key.
		{route(none(), exact(7)), api.ErrKind}, {route(exact(7), exact(7)), api.ErrValue}, {mixed(1, fine[1], fine[0], fine[2], fine[3]), api.ErrKind}, {mixed(1, fine[0], fine[1], fine[3], fine[2]), api.ErrKind}, {mixed(1, none(), none(), api.Match{Present: true, Value: below(65)}, none()), api.OK}, {mixed(1, none(), none(), api.Match{Present: true, Value: power(65)}, none()), api.ErrValue},
		// ErrPriority, for any key that is Ternary or Range
		{with(host(exact(1)), 1), api.ErrPriority}, {with(host(exact(1)), -1), api.ErrPriority}, {with(host(exact(1)), math.MaxInt), api.ErrPriority}, {with(route(exact(1), prefix(0, 1)), 1), api.ErrPriority}, {with(route(exact(1), none()), 65535), api.ErrPriority},
		{mixed(65535, fine...), api.OK}, {mixed(0, fine...), api.ErrPriority}, {mixed(65536, fine...), api.ErrPriority}, {mixed(-1, fine...), api.ErrPriority}, {mixed(math.MinInt, fine...), api.ErrPriority}, {mixed(math.MaxInt, fine...), api.ErrPriority},
		{api.Entry{Table: 13, Matches: []api.Match{none()}, Priority: 1}, api.OK}, {api.Entry{Table: 13, Matches: []api.Match{none()}}, api.ErrPriority}, {api.Entry{Table: 13, Matches: []api.Match{none()}, Priority: 65536}, api.ErrPriority},
		{api.Entry{Table: 14, Matches: []api.Match{none()}, Priority: 1}, api.OK}, {api.Entry{Table: 14, Matches: []api.Match{none()}}, api.ErrPriority}, {api.Entry{Table: 14, Matches: []api.Match{none()}, Priority: 65536}, api.ErrPriority},
		{api.Entry{Table: 15, Matches: []api.Match{none()}}, api.OK}, {api.Entry{Table: 15, Matches: []api.Match{none()}, Priority: 1}, api.ErrPriority},
		// Neither the action counts, nor the restrictions.
		{api.Entry{Table: 10, Matches: []api.Match{exact(1)}, Action: 99, Args: []api.Value{ones}}, api.OK}, {mixed(100, fine...), api.OK}, {route(exact(1), prefix(0, 8)), api.OK},
	} {
		if code := CheckKey(s, x.e); code != x.want {
			t.Errorf("entry %d: %d, not %d", i, code, x.want)
		}
	}
}

// P10.1 CheckKey: matches for keys of 8 bits, and of 128
func TestCheckMatch(t *testing.T) {
	wide := func(v, mask api.Value, prefix int, high api.Value) api.Match {
		return api.Match{Present: true, Value: v, Mask: mask, Prefix: prefix, High: high}
	}
	zero := of(0)
	for i, x := range []struct {
		kind, bits int
		m          api.Match
		want       api.Errno
	}{
		{api.Exact, 8, exact(0), api.OK}, {api.Exact, 8, exact(255), api.OK}, {api.Exact, 8, exact(256), api.ErrValue}, {api.Exact, 8, none(), api.ErrKind}, {api.Exact, 8, api.Match{Value: of(1)}, api.ErrKind}, {api.Exact, 8, prefix(1, 8), api.ErrKind}, {api.Exact, 8, prefix(1, -1), api.ErrKind}, {api.Exact, 8, ternary(1, 255), api.ErrKind}, {api.Exact, 8, between(1, 1), api.ErrKind}, {api.Exact, 8, between(256, 1), api.ErrKind},
		{api.Exact, 128, wide(ones, zero, 0, zero), api.OK}, {api.Exact, 127, wide(ones, zero, 0, zero), api.ErrValue}, {api.Exact, 1, exact(1), api.OK}, {api.Exact, 1, exact(2), api.ErrValue},
		{api.LPM, 8, none(), api.OK}, {api.LPM, 8, prefix(0, 1), api.OK}, {api.LPM, 8, prefix(128, 1), api.OK}, {api.LPM, 8, prefix(255, 8), api.OK}, {api.LPM, 8, prefix(0, 8), api.OK}, {api.LPM, 8, prefix(254, 7), api.OK}, {api.LPM, 8, prefix(255, 7), api.ErrValue}, {api.LPM, 8, prefix(1, 1), api.ErrValue}, {api.LPM, 8, prefix(64, 1), api.ErrValue}, {api.LPM, 8, prefix(0, 0), api.ErrValue}, {api.LPM, 8, prefix(0, -1), api.ErrValue}, {api.LPM, 8, prefix(0, math.MinInt), api.ErrValue}, {api.LPM, 8, prefix(0, 9), api.ErrValue}, {api.LPM, 8, prefix(0, 128), api.ErrValue}, {api.LPM, 8, prefix(0, math.MaxInt), api.ErrValue}, {api.LPM, 8, prefix(256, 8), api.ErrValue}, {api.LPM, 8, prefix(256, 1), api.ErrValue},
		{api.LPM, 8, api.Match{Prefix: 1}, api.ErrKind}, {api.LPM, 8, api.Match{Value: of(128)}, api.ErrKind}, {api.LPM, 8, ternary(1, 1), api.ErrKind}, {api.LPM, 8, between(0, 1), api.ErrKind}, {api.LPM, 8, wide(of(256), of(1), 9, zero), api.ErrKind}, {api.LPM, 8, wide(of(1), zero, 1, of(1)), api.ErrKind},
		{api.LPM, 128, wide(ones, zero, 128, zero), api.OK}, {api.LPM, 128, wide(power(127), zero, 1, zero), api.OK}, {api.LPM, 128, wide(power(126), zero, 1, zero), api.ErrValue}, {api.LPM, 128, wide(power(126), zero, 2, zero), api.OK}, {api.LPM, 128, prefix(1, 127), api.ErrValue}, {api.LPM, 128, prefix(1, 129), api.ErrValue}, {api.LPM, 1, prefix(1, 1), api.OK}, {api.LPM, 1, prefix(1, 2), api.ErrValue},
		{api.Ternary, 8, none(), api.OK}, {api.Ternary, 8, ternary(0, 1), api.OK}, {api.Ternary, 8, ternary(5, 7), api.OK}, {api.Ternary, 8, ternary(255, 255), api.OK}, {api.Ternary, 8, ternary(0, 0), api.ErrValue}, {api.Ternary, 8, ternary(1, 0), api.ErrValue}, {api.Ternary, 8, ternary(2, 1), api.ErrValue}, {api.Ternary, 8, ternary(3, 1), api.ErrValue}, {api.Ternary, 8, ternary(0, 256), api.ErrValue}, {api.Ternary, 8, ternary(0, 257), api.ErrValue}, {api.Ternary, 8, ternary(256, 256), api.ErrValue}, {api.Ternary, 8, ternary(256, 1), api.ErrValue},
		{api.Ternary, 8, api.Match{Mask: of(1)}, api.ErrKind}, {api.Ternary, 8, prefix(1, 8), api.ErrKind}, {api.Ternary, 8, between(1, 1), api.ErrKind}, {api.Ternary, 8, wide(of(1), of(1), 1, zero), api.ErrKind}, {api.Ternary, 8, wide(of(1), zero, 0, of(1)), api.ErrKind},
		{api.Ternary, 128, wide(ones, ones, 0, zero), api.OK}, {api.Ternary, 128, wide(power(64), power(64), 0, zero), api.OK}, {api.Ternary, 128, wide(power(64), of(1), 0, zero), api.ErrValue}, {api.Ternary, 64, wide(zero, power(64), 0, zero), api.ErrValue}, {api.Ternary, 1, ternary(1, 1), api.OK},
		{api.Range, 8, none(), api.OK}, {api.Range, 8, between(3, 9), api.OK}, {api.Range, 8, between(4, 4), api.OK}, {api.Range, 8, between(0, 0), api.OK}, {api.Range, 8, between(255, 255), api.OK}, {api.Range, 8, between(0, 254), api.OK}, {api.Range, 8, between(1, 255), api.OK}, {api.Range, 8, between(0, 255), api.ErrValue}, {api.Range, 8, between(4, 3), api.ErrValue}, {api.Range, 8, between(255, 0), api.ErrValue}, {api.Range, 8, between(0, 256), api.ErrValue}, {api.Range, 8, between(4, 256), api.ErrValue}, {api.Range, 8, between(256, 256), api.ErrValue}, {api.Range, 8, between(256, 3), api.ErrValue},
		{api.Range, 8, api.Match{High: of(255)}, api.ErrKind}, {api.Range, 8, prefix(1, 8), api.ErrKind}, {api.Range, 8, ternary(1, 1), api.ErrKind}, {api.Range, 8, wide(of(9), of(1), 0, of(3)), api.ErrKind}, {api.Range, 8, wide(of(1), zero, 1, of(3)), api.ErrKind},
		{api.Range, 128, wide(zero, zero, 0, ones), api.ErrValue}, {api.Range, 128, wide(of(1), zero, 0, ones), api.OK}, {api.Range, 128, wide(zero, zero, 0, below(64)), api.OK}, {api.Range, 128, wide(power(64), zero, 0, of(9)), api.ErrValue}, {api.Range, 1, between(0, 1), api.ErrValue}, {api.Range, 1, between(1, 1), api.OK}, {api.Range, 1, between(0, 0), api.OK},
	} {
		e := host(x.m)
		if x.kind == api.Ternary || x.kind == api.Range {
			e.Priority = 1
		}
		s := single(x.kind, x.bits)
		if code := CheckKey(s, e); code != x.want {
			t.Errorf("match %d: %d, not %d", i, code, x.want)
		}
		if code := expectedMatch(x.m, x.kind, x.bits); code != x.want {
			t.Errorf("match %d: the oracle says %d, not %d", i, code, x.want)
		}
		// ErrPriority is listed behind the errors of matches.
		want := x.want
		if want == api.OK {
			want = api.ErrPriority
		}
		if code := CheckKey(s, with(e, -1)); code != want {
			t.Errorf("match %d with a wrong priority: %d, not %d", i, code, want)
		}
	}
}

// P10.1 CheckKey: of the errors of several keys, that of the first one
func TestOrderOfKeys(t *testing.T) {
	type choice struct {
		m    api.Match
		code api.Errno
	}
	choices := map[int][]choice{
		api.Exact:   {{exact(1), api.OK}, {none(), api.ErrKind}, {exact(8), api.ErrValue}},
		api.LPM:     {{prefix(4, 1), api.OK}, {between(4, 5), api.ErrKind}, {prefix(2, 1), api.ErrValue}},
		api.Ternary: {{ternary(4, 6), api.OK}, {prefix(4, 1), api.ErrKind}, {ternary(1, 6), api.ErrValue}},
		api.Range:   {{between(2, 3), api.OK}, {ternary(2, 3), api.ErrKind}, {between(3, 2), api.ErrValue}},
	}
	for _, a := range kinds {
		for _, b := range kinds {
			s := withKeys([]int{a, b, api.Exact}, []int{3, 3, 3})
			for _, x := range choices[a] {
				for _, y := range choices[b] {
					for _, z := range choices[api.Exact] {
						for priority := range 2 {
							e := with(host(x.m, y.m, z.m), priority)
							want := api.OK
							if (priority == 1) != (max(a, b) >= api.Ternary) {
								want = api.ErrPriority
							}
							for _, code := range []api.Errno{z.code, y.code, x.code} {
								if code != api.OK {
									want = code
								}
							}
							if code := CheckKey(s, e); code != want {
								t.Fatalf("%+v for the Kinds %d and %d: %d, not %d", e, a, b, code, want)
							}
						}
					}
				}
			}
		}
	}
}

// canonical returns the matches for a key of 3 bits that have no error.
func canonical(kind int) []api.Match {
	var l []api.Match
	if kind != api.Exact {
		l = append(l, none())
	}
	for a := range uint64(8) {
		switch kind {
		case api.Exact:
			l = append(l, exact(a))
		case api.LPM:
			for length := 1; length <= 3; length++ {
				if low := uint64(1) << (3 - length); a%low == 0 {
					l = append(l, prefix(a, length))
				}
			}
		case api.Ternary:
			for mask := range uint64(8) {
				if mask > 0 && a|mask == mask {
					l = append(l, ternary(a, mask))
				}
			}
		case api.Range:
			for b := a; b < 8; b++ {
				if b-a < 7 {
					l = append(l, between(a, b))
				}
			}
		}
	}
	return l
}

// P10.1 CheckKey: all matches of small numbers, for keys of 3 bits
func TestSmallMatches(t *testing.T) {
	for _, kind := range kinds {
		s := single(kind, 3)
		want, found := canonical(kind), 0
		priority := 0
		if kind >= api.Ternary {
			priority = 1
		}
		for n := range 2 * 10 * 10 * 7 * 10 {
			m := api.Match{Present: n%2 == 1, Value: of(uint64(n / 2 % 10)), Mask: of(uint64(n / 20 % 10)), Prefix: n/200%7 - 1, High: of(uint64(n / 1400))}
			code := CheckKey(s, with(host(m), priority))
			if (code == api.OK) != slices.Contains(want, m) || code != expectedMatch(m, kind, 3) {
				t.Fatalf("%+v of the Kind %d: %d", m, kind, code)
			}
			if code == api.OK {
				found++
			}
		}
		if found != len(want) {
			t.Errorf("%d matches of the Kind %d, not %d", found, kind, len(want))
		}
	}
}

// P10.1 CheckKey: random entries, against the oracle
func TestRandomKeys(t *testing.T) {
	codes := map[api.Errno]int{}
	for seed := range int64(40000) {
		c := newChooser(seed)
		var ks, bits []int
		for range 1 + c.Intn(4) {
			kind := pick(c, kinds...)
			if kind == api.LPM && slices.Contains(ks, api.LPM) {
				kind = api.Exact
			}
			ks, bits = append(ks, kind), append(bits, pick(c, 1, 2, 8, 16, 31, 32, 63, 64, 65, 127, 128))
		}
		s := withKeys(ks, bits)
		if seed < 100 && !wellFormed(s) {
			t.Fatalf("seed %d: the schema has the error %d", seed, check.Check(s))
		}
		e := api.Entry{Table: pick(c, 10, 10, 10, 10, 10, 10, 10, 10, 9, 1), Priority: pick(c, -1, 0, 0, 1, 1, 65535, 65536)}
		for i, kind := range ks {
			e.Matches = append(e.Matches, c.match(kind, bits[i]))
		}
		want := expectedKey(s, e)
		if code := CheckKey(s, e); code != want {
			t.Fatalf("seed %d: %d, not %d: %+v", seed, code, want, e)
		}
		codes[want]++
	}
	for _, code := range []api.Errno{api.OK, api.ErrUnknown, api.ErrKind, api.ErrValue, api.ErrPriority} {
		if codes[code] < 1000 {
			t.Errorf("the entries are not diverse enough: %v", codes)
		}
	}
}

// P10.1 CheckAction
func TestCheckAction(t *testing.T) {
	s := sample()
	type args = []api.Value
	zero, one := of(0), of(1)
	for i, x := range []struct {
		table, action int
		args          args
		want          api.Errno
	}{
		{10, 20, nil, api.OK}, {10, 20, args{}, api.OK}, {10, 22, nil, api.OK}, {12, 20, nil, api.OK}, {12, 22, nil, api.OK},
		{11, 21, args{zero, one, one}, api.OK}, {11, 21, args{of(math.MaxUint32), ones, zero}, api.OK}, {12, 23, args{below(65)}, api.OK},
		// ErrUnknown for the table, or for the action: one that is not in the table, one that does not exist, none
		{0, 20, nil, api.ErrUnknown}, {9, 20, nil, api.ErrUnknown}, {20, 20, nil, api.ErrUnknown}, {-1, -1, nil, api.ErrUnknown}, {10, 21, args{zero, one, one}, api.ErrUnknown}, {11, 22, nil, api.ErrUnknown}, {13, 23, args{one}, api.ErrUnknown}, {10, 19, nil, api.ErrUnknown}, {10, 0, nil, api.ErrUnknown}, {10, -1, nil, api.ErrUnknown}, {10, 10, nil, api.ErrUnknown}, {12, 1, nil, api.ErrUnknown},
		{10, 21, nil, api.ErrUnknown}, {10, 21, args{ones, ones, ones}, api.ErrUnknown},
		// ErrKind for the number of arguments, whatever they are
		{10, 20, args{zero}, api.ErrKind}, {11, 21, nil, api.ErrKind}, {11, 21, args{zero, one}, api.ErrKind}, {11, 21, args{zero, one, one, zero}, api.ErrKind}, {11, 21, args{ones, ones}, api.ErrKind}, {11, 21, args{ones, ones, ones, ones}, api.ErrKind}, {12, 23, nil, api.ErrKind}, {10, 20, make(args, 100000), api.ErrKind},
		// ErrValue for each argument
		{11, 21, args{power(32), one, one}, api.ErrValue}, {11, 21, args{one, one, of(2)}, api.ErrValue}, {11, 21, args{ones, ones, ones}, api.ErrValue}, {11, 21, args{power(127), zero, zero}, api.ErrValue}, {12, 23, args{power(65)}, api.ErrValue}, {12, 23, args{ones}, api.ErrValue},
	} {
		// Neither the key counts, nor the restrictions.
		for _, e := range []api.Entry{{}, {Matches: []api.Match{exact(1)}, Priority: -7}} {
			e.Table, e.Action, e.Args = x.table, x.action, x.args
			if code := CheckAction(s, e); code != x.want {
				t.Errorf("action %d: %d, not %d", i, code, x.want)
			}
		}
	}
}

// P10.1 Check
func TestCheck(t *testing.T) {
	s := sample()
	do := func(e api.Entry, action int, args ...api.Value) api.Entry {
		e.Action, e.Args = action, args
		return e
	}
	one, two := of(1), of(2)
	fine := func(priority int) api.Entry { return mixed(priority, ternary(5, 7), between(3, 9), exact(1), none()) }
	badRoute := route(exact(1), prefix(0, 8))
	for i, x := range []struct {
		e    api.Entry
		want api.Errno
	}{
		{host(exact(1)), api.OK}, {route(exact(1), prefix(0, 7)), api.OK}, {route(exact(1), prefix(0x01000000, 8)), api.OK}, {do(route(exact(1), none()), 21, one, two, one), api.OK}, {fine(1), api.OK}, {fine(99), api.OK}, {do(fine(99), 23, below(65)), api.OK}, {do(fine(1), 21, one, ones, of(0)), api.OK},
		// ErrConstraint of the table, of the action, of both
		{badRoute, api.ErrConstraint}, {fine(100), api.ErrConstraint}, {fine(65535), api.ErrConstraint}, {do(host(exact(1)), 22), api.ErrConstraint}, {do(fine(1), 22), api.ErrConstraint}, {do(fine(1), 21, one, one, one), api.ErrConstraint}, {do(badRoute, 21, one, two, one), api.ErrConstraint}, {do(badRoute, 21, two, one, one), api.ErrConstraint},
		// CheckKey, then CheckAction, then the restrictions
		{do(host(none()), 99), api.ErrKind}, {do(host(exact(1<<32)), 20, one), api.ErrValue}, {do(fine(0), 99), api.ErrPriority}, {do(fine(0), 22), api.ErrPriority}, {do(fine(65536), 20, one), api.ErrPriority}, {api.Entry{Table: 9, Action: 20}, api.ErrUnknown}, {api.Entry{}, api.ErrUnknown},
		{do(fine(1), 99), api.ErrUnknown}, {do(fine(1), 0), api.ErrUnknown}, {do(fine(100), 99), api.ErrUnknown}, {do(fine(100), 20, one), api.ErrKind}, {do(fine(100), 21, ones, one, one), api.ErrValue}, {do(badRoute, 21, power(32), one, one), api.ErrValue}, {do(badRoute, 22), api.ErrUnknown}, {do(host(exact(1)), 22, one), api.ErrKind},
	} {
		if code := Check(s, x.e); code != x.want {
			t.Errorf("entry %d: %d, not %d", i, code, x.want)
		}
	}
}

// P10.1, the example of chapter 10 and the example 6 of the document
func TestExampleOfChecking(t *testing.T) {
	if code := CheckKey(sample(), route(exact(1), prefix(0x0a000000, 8))); code != api.OK {
		t.Errorf("0x0a000000 / 8: %d", code)
	}
	if code := CheckKey(sample(), route(exact(1), prefix(0x0a000001, 8))); code != api.ErrValue {
		t.Errorf("0x0a000001 / 8: %d", code)
	}
}

// P10.1 and P10.2: a match without an error covers something, but not everything if it is Present, and no other one of its Kind covers the same.
func TestCanonical(t *testing.T) {
	for _, kind := range kinds {
		seen := map[string]api.Match{}
		for _, m := range canonical(kind) {
			covered := ""
			for v := range uint64(8) {
				if Covers(m, kind, 3, of(v)) {
					covered += string(rune('0' + v))
				}
			}
			if covered == "" || m.Present == (covered == "01234567") {
				t.Errorf("%+v of the Kind %d covers %q", m, kind, covered)
			}
			if other, ok := seen[covered]; ok {
				t.Errorf("%+v and %+v of the Kind %d cover %q", m, other, kind, covered)
			}
			seen[covered] = m
		}
	}
}

// R1: any schema and any entry; none of the functions may panic.
func TestAnything(t *testing.T) {
	for seed := range int64(30000) {
		c := newChooser(seed)
		number := func() int { return pick(c, -1, 0, 0, 1, 1, 2, 3, 4, 5, 64, 128, 129, math.MinInt, math.MaxInt) }
		list := func(do func()) {
			for range c.Intn(7) {
				do()
			}
		}
		var s api.Schema
		list(func() { s.Fields = append(s.Fields, api.Field{ID: number(), Bits: number()}) })
		list(func() {
			a := api.Action{ID: number(), Restriction: pick(c, "", "p != 0", "(", "q")}
			list(func() { a.Params = append(a.Params, api.Param{Name: pick(c, "p", "q"), Bits: number()}) })
			s.Actions = append(s.Actions, a)
		})
		list(func() {
			x := api.Table{ID: number(), Restriction: pick(c, "", "p == q", "(", "p::high")}
			list(func() {
				x.Keys = append(x.Keys, api.Key{Name: pick(c, "p", "q"), Field: number(), Kind: number()})
			})
			list(func() { x.Actions = append(x.Actions, number()) })
			s.Tables = append(s.Tables, x)
		})
		e := api.Entry{Table: number(), Priority: number(), Action: number()}
		list(func() {
			m := c.match(number(), 4)
			m.Prefix = number()
			e.Matches = append(e.Matches, m)
			Covers(m, number(), number(), c.value(4))
		})
		list(func() { e.Args = append(e.Args, c.value(4)) })
		CheckKey(s, e)
		CheckAction(s, e)
		Check(s, e)
		Matches(s, e, api.Point{c.value(4), c.value(4), c.value(4), c.value(4)})
		Prefix(s, e)
		Beats(s, api.Installed{Entry: e, Number: number()}, api.Installed{Number: number()})
		Append(nil, e)
	}
}
