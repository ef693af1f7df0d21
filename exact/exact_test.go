package exact

import (
	"cmp"
	"fmt"
	"math"
	"math/rand"
	"slices"
	"testing"

	"matchguard/api"
)

const most = math.MaxUint64

// point returns a point with the words Hi and Lo of its values, in order; those that are missing are zero.
func point(words ...uint64) api.Point {
	var p api.Point
	for i, w := range words {
		if i%2 == 0 {
			p[i/2].Hi = w
		} else {
			p[i/2].Lo = w
		}
	}
	return p
}

// ascending are different points in ascending order.
func ascending() []api.Point {
	return []api.Point{
		{},
		// The fourth value, the third one and the second one: the first one that differs decides.
		point(0, 0, 0, 0, 0, 0, 0, 1), point(0, 0, 0, 0, 0, 0, 0, 2), point(0, 0, 0, 0, 0, 0, 0, most), point(0, 0, 0, 0, 0, 0, 1, 0), point(0, 0, 0, 0, 0, 0, 1, most), point(0, 0, 0, 0, 0, 0, most, 0), point(0, 0, 0, 0, 0, 0, most, most),
		point(0, 0, 0, 0, 0, 1), point(0, 0, 0, 0, 0, 1, most, most), point(0, 0, 0, 0, 0, 2), point(0, 0, 0, 0, 0, most, 0, 9), point(0, 0, 0, 0, 1, 0), point(0, 0, 0, 0, 1, 0, 0, 1), point(0, 0, 0, 0, most, 0),
		point(0, 0, 0, 1), point(0, 0, 0, 1, 0, 0, 0, 1), point(0, 0, 0, 1, 0, 1), point(0, 0, 0, 1, most, most, most, most), point(0, 0, 0, 2), point(0, 0, 0, most), point(0, 0, 1, 0), point(0, 0, 1, 0, 0, 5), point(0, 0, 1, 1), point(0, 0, most, 0),
		// The first value, of which the high word decides
		point(0, 1), point(0, 1, most, most, most, most, most, most), point(0, 2, 0, 1), point(0, 2, 0, 1, 0, 0, 0, 7), point(0, 2, 0, 1, 0, 7), point(0, 2, 0, 7), point(0, 1<<63), point(0, most), point(1, 0), point(1, 0, 0, 0, 0, 0, 0, 1), point(1, 1), point(1, most), point(2, 0), point(1<<63, 0), point(most, 0, most, most), point(most, 1), point(most, most), point(most, most, 0, 1), point(most, most, most, most, most, most, most, most),
	}
}

// put adds pairs to an index.
func put(t *testing.T, x *Index, pairs []Pair) {
	t.Helper()
	for _, pair := range pairs {
		if !x.Put(pair.Point, pair.ID) {
			t.Fatalf("Put(%v) is false", pair.Point)
		}
	}
}

// pairsOf gives points the IDs from the first one on.
func pairsOf(points []api.Point, first int) []Pair {
	var l []Pair
	for i, p := range points {
		l = append(l, Pair{p, first + i})
	}
	return l
}

// P11.1 New: an index without points
func TestEmpty(t *testing.T) {
	x := New()
	if x == nil {
		t.Fatal("New returns nil")
	}
	for _, p := range ascending() {
		if id, ok := x.Get(p); id != 0 || ok || x.Remove(p) {
			t.Errorf("%v is there", p)
		}
	}
	if x.Len() != 0 || len(x.All()) != 0 {
		t.Errorf("%d points: %v", x.Len(), x.All())
	}
	if !x.Put(point(), 1) || x.Len() != 1 {
		t.Error("a point cannot be added behind Remove")
	}
}

// P11.1 Put: the document's example, and nothing changes if the point is there
func TestPutAgain(t *testing.T) {
	for _, p := range ascending() {
		x := New()
		if !x.Put(p, 5) {
			t.Errorf("%v is there ahead of Put", p)
		}
		for _, id := range []int{6, 5, 0, -5} {
			if x.Put(p, id) {
				t.Errorf("%v is added twice", p)
			}
			if id, ok := x.Get(p); id != 5 || !ok {
				t.Errorf("%v has the ID %d, %t", p, id, ok)
			}
		}
		if want := []Pair{{p, 5}}; x.Len() != 1 || !slices.Equal(x.All(), want) {
			t.Errorf("%d points: %v, not %v", x.Len(), x.All(), want)
		}
	}
}

// P11.1 Get: all IDs, also 0; several points may have the same one
func TestIDs(t *testing.T) {
	x := New()
	ids := []int{0, 0, 1, -1, 7, 7, -7, math.MaxInt, math.MaxInt, math.MinInt, 1 << 32, -1 << 32}
	points := ascending()[:len(ids)]
	for i, id := range ids {
		if !x.Put(points[i], id) || x.Put(points[i], id+1) {
			t.Errorf("Put with the ID %d", id)
		}
	}
	for i, want := range ids {
		if id, ok := x.Get(points[i]); id != want || !ok {
			t.Errorf("the ID %d, %t, not %d", id, ok, want)
		}
	}
	for i, pair := range x.All() {
		if want := (Pair{points[i], ids[i]}); pair != want {
			t.Errorf("%v, not %v", pair, want)
		}
	}
	if !x.Remove(points[0]) || x.Len() != len(ids)-1 {
		t.Error("a point with the ID 0 is not removed")
	}
}

// P11.1 Get: points are different if any word of any value is
func TestNeighbours(t *testing.T) {
	base := point(1, 2, 3, 4, 5, 6, 7, 8)
	x := New()
	x.Put(base, 9)
	for i := range 2 * api.MaxKeys {
		for bit := range 64 {
			words := []uint64{1, 2, 3, 4, 5, 6, 7, 8}
			words[i] ^= 1 << bit
			p := point(words...)
			if id, ok := x.Get(p); id != 0 || ok || x.Remove(p) {
				t.Errorf("%v is there", p)
			}
			if !x.Put(p, 10) || x.Len() != 2 || !x.Remove(p) {
				t.Errorf("%v is not added beside %v", p, base)
			}
			if id, ok := x.Get(base); id != 9 || !ok || x.Len() != 1 {
				t.Errorf("%v is gone", base)
			}
		}
	}
}

// P11.1 Remove: this point and no other, once; it can be added again
func TestRemove(t *testing.T) {
	all := pairsOf(ascending(), 100)
	for i, gone := range all {
		x := New()
		put(t, x, all)
		if !x.Remove(gone.Point) || x.Remove(gone.Point) || x.Len() != len(all)-1 {
			t.Errorf("Remove(%v), %d points", gone.Point, x.Len())
		}
		if id, ok := x.Get(gone.Point); id != 0 || ok {
			t.Errorf("%v is there with the ID %d", gone.Point, id)
		}
		if want := slices.Delete(slices.Clone(all), i, i+1); !slices.Equal(x.All(), want) {
			t.Errorf("behind Remove(%v): %v", gone.Point, x.All())
		}
		if !x.Put(gone.Point, -1) || x.Len() != len(all) {
			t.Errorf("%v is not added again", gone.Point)
		}
		if id, ok := x.Get(gone.Point); id != -1 || !ok {
			t.Errorf("%v has its old ID %d", gone.Point, id)
		}
	}
}

// P11.1 Remove: all points
func TestRemoveAll(t *testing.T) {
	x := New()
	for range 3 {
		put(t, x, pairsOf(ascending(), 1))
		for i, p := range ascending() {
			if x.Len() != len(ascending())-i || !x.Remove(p) {
				t.Errorf("Remove(%v) of %d points", p, x.Len())
			}
		}
		if x.Len() != 0 || len(x.All()) != 0 {
			t.Errorf("%d points are left: %v", x.Len(), x.All())
		}
	}
}

// P11.1 All: the order of points, whatever the order of their IDs is
func TestOrder(t *testing.T) {
	l := ascending()
	for i, p := range l {
		for k, q := range l {
			if i == k {
				continue
			}
			x := New()
			x.Put(p, k)
			x.Put(q, i)
			want := []Pair{{l[min(i, k)], max(i, k)}, {l[max(i, k)], min(i, k)}}
			if got := x.All(); !slices.Equal(got, want) {
				t.Fatalf("%v, not %v", got, want)
			}
		}
	}
}

// P11.2: All returns the same for all orders of the calls
func TestAnyOrder(t *testing.T) {
	want := pairsOf(ascending(), -7)
	for seed := range int64(300) {
		c := rand.New(rand.NewSource(seed))
		x := New()
		// What is removed again, and what is there already, leaves no trace.
		first := c.Perm(len(want))
		for _, i := range first {
			p := want[i].Point
			if c.Intn(2) == 0 {
				x.Put(p, 1000+i)
				if c.Intn(3) > 0 {
					x.Remove(p)
				}
			}
		}
		for _, i := range c.Perm(len(want)) {
			p := want[i].Point
			if id, ok := x.Get(p); ok && id >= 1000 {
				x.Remove(p)
			}
			x.Put(p, want[i].ID)
			x.Put(p, 2000)
		}
		for range 2 {
			if got := x.All(); !slices.Equal(got, want) {
				t.Fatalf("seed %d: %v, not %v", seed, got, want)
			}
		}
	}
}

// textOf returns a text whose order is that of points.
func textOf(p api.Point) string {
	text := ""
	for _, v := range p {
		text += fmt.Sprintf("%016x%016x", v.Hi, v.Lo)
	}
	return text
}

// list is an index as a list of pairs.
type list []Pair

func (l list) find(p api.Point) int {
	return slices.IndexFunc(l, func(pair Pair) bool { return pair.Point == p })
}

func (l list) sorted() list {
	return slices.SortedFunc(slices.Values(l), func(a, b Pair) int { return cmp.Compare(textOf(a.Point), textOf(b.Point)) })
}

// randomPoint returns a point of few words, so that points occur again.
func randomPoint(c *rand.Rand) api.Point {
	some := []uint64{0, 1, 255, most}
	var words []uint64
	for range 2 * api.MaxKeys {
		w := uint64(0)
		if c.Intn(3) == 0 {
			w = some[c.Intn(len(some))]
		}
		words = append(words, w)
	}
	return point(words...)
}

// P11.1, P11.2: random calls, against a list
func TestRandomCalls(t *testing.T) {
	found := map[string]int{}
	for seed := range int64(60) {
		c := rand.New(rand.NewSource(seed))
		x := New()
		var l list
		for step := range 400 {
			p, id := randomPoint(c), c.Intn(9)-4
			if len(l) > 0 && c.Intn(3) == 0 {
				p = l[c.Intn(len(l))].Point
			}
			i := l.find(p)
			switch c.Intn(4) {
			case 0, 1:
				if x.Put(p, id) != (i < 0) {
					t.Fatalf("seed %d, step %d: Put", seed, step)
				}
				if i < 0 {
					l = append(l, Pair{p, id})
				}
			case 2:
				if x.Remove(p) != (i >= 0) {
					t.Fatalf("seed %d, step %d: Remove", seed, step)
				}
				if i >= 0 {
					l = slices.Delete(l, i, i+1)
				}
			case 3:
				if all := x.All(); !slices.Equal(all, l.sorted()) {
					t.Fatalf("seed %d, step %d: %v, not %v", seed, step, all, l.sorted())
				}
			}
			want := Pair{Point: p}
			i = l.find(p)
			if i >= 0 {
				want = l[i]
			}
			if id, ok := x.Get(p); id != want.ID || ok != (i >= 0) || x.Len() != len(l) {
				t.Fatalf("seed %d, step %d: Get and Len", seed, step)
			}
			found[fmt.Sprint(i >= 0)]++
		}
	}
	if found["true"] < 1000 || found["false"] < 1000 {
		t.Errorf("the calls are not diverse enough: %v", found)
	}
}

// P11.1: many points
func TestMany(t *testing.T) {
	const n = 20000
	x := New()
	at := func(i int) api.Point {
		// Multiplication with an odd number permutes the words.
		w := uint64(i) * 0x9e3779b97f4a7c15
		return point(0, w>>60, w, uint64(i))
	}
	for i := range n {
		if !x.Put(at(i), i) {
			t.Fatalf("Put %d", i)
		}
	}
	all := x.All()
	if len(all) != n || x.Len() != n || !slices.IsSortedFunc(all, func(a, b Pair) int { return cmp.Compare(textOf(a.Point), textOf(b.Point)) }) {
		t.Errorf("%d points in All, %d in Len", len(all), x.Len())
	}
	for _, pair := range all {
		if pair.Point != at(pair.ID) {
			t.Fatalf("%v has the ID %d", pair.Point, pair.ID)
		}
	}
	for i := range n {
		if id, ok := x.Get(at(i)); id != i || !ok || i%2 == 0 && !x.Remove(at(i)) {
			t.Fatalf("Get and Remove %d", i)
		}
	}
	if x.Len() != n/2 || len(x.All()) != n/2 {
		t.Errorf("%d points are left", x.Len())
	}
}

// P11.1: results share no memory with the index, nor with each other, and indexes none with other indexes (rule R3)
func TestSharing(t *testing.T) {
	x, y := New(), New()
	want := pairsOf(ascending(), 1)
	put(t, x, want)
	if y.Len() != 0 {
		t.Error("points of an index are in another one")
	}
	a, b := x.All(), x.All()
	for i := range a {
		a[i] = Pair{point(9, 9), -9}
	}
	a = append(a[:0], Pair{})
	if c := x.All(); !slices.Equal(b, want) || !slices.Equal(c, want) {
		t.Error("a result is changed by a change of another one")
	}
	x.Remove(want[0].Point)
	y.Put(want[1].Point, 50)
	if id, _ := x.Get(want[1].Point); id != want[1].ID || !slices.Equal(b, want) {
		t.Error("a result is changed by a later call")
	}
	if y.Len() != 1 || y.Remove(want[2].Point) || x.Len() != len(want)-1 {
		t.Error("two indexes have points in common")
	}
}

// P11.1: on a nil *Index, results are zero, and nothing happens
func TestNil(t *testing.T) {
	var x *Index
	for range 2 {
		for _, p := range ascending() {
			if id, ok := x.Get(p); id != 0 || ok {
				t.Errorf("Get: %d, %t", id, ok)
			}
			if x.Put(p, 1) || x.Remove(p) {
				t.Error("Put or Remove is true")
			}
		}
		if x.Len() != 0 || len(x.All()) != 0 {
			t.Errorf("%d points: %v", x.Len(), x.All())
		}
	}
}

// An Index that was not made by New does not panic (rule R1).
func TestZero(t *testing.T) {
	var x Index
	p := point(1, 2)
	if id, ok := x.Get(p); id != 0 || ok || x.Remove(p) || x.Len() != 0 || len(x.All()) != 0 {
		t.Error("the zero Index has points")
	}
	if !x.Put(p, 3) || x.Put(p, 4) || x.Len() != 1 {
		t.Error("Put")
	}
	if id, ok := x.Get(p); id != 3 || !ok || !x.Remove(p) {
		t.Errorf("Get: %d, %t", id, ok)
	}
}
