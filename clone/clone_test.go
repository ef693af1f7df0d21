package clone

import (
	"fmt"
	"reflect"
	"slices"
	"testing"

	"matchguard/api"
)

// fill gives every number, text and truth value in v one that is not zero, and every list two elements.
func fill(v reflect.Value, next *int64) {
	*next++
	switch v.Kind() {
	case reflect.Struct:
		for i := range v.NumField() {
			fill(v.Field(i), next)
		}
	case reflect.Slice:
		v.Set(reflect.MakeSlice(v.Type(), 2, 5))
		fill(v.Index(0), next)
		fill(v.Index(1), next)
	case reflect.Int:
		v.SetInt(*next)
	case reflect.Uint64:
		v.SetUint(uint64(*next))
	case reflect.Bool:
		v.SetBool(true)
	case reflect.String:
		v.SetString(fmt.Sprint("n", *next))
	default:
		panic("a kind that package api does not have: " + v.Kind().String())
	}
}

// addresses returns where the lists in v begin and end, as far as they have memory.
func addresses(v reflect.Value) []uintptr {
	var l []uintptr
	switch v.Kind() {
	case reflect.Struct:
		for i := range v.NumField() {
			l = append(l, addresses(v.Field(i))...)
		}
	case reflect.Slice:
		for i := range v.Len() {
			l = append(l, addresses(v.Index(i))...)
		}
		if v.Cap() > 0 {
			l = append(l, v.Pointer())
		}
	}
	return l
}

// checkCopy checks that a function makes a copy of what it is given, and leaves that as it is.
func checkCopy[T any](t *testing.T, of func(T) T) {
	t.Helper()
	var zero, x, same T
	if got := of(zero); !equal(reflect.ValueOf(got), reflect.ValueOf(zero)) {
		t.Errorf("%+v, not zero", got)
	}
	var next int64
	fill(reflect.ValueOf(&x).Elem(), &next)
	next = 0
	fill(reflect.ValueOf(&same).Elem(), &next)
	got := of(x)
	if !reflect.DeepEqual(got, same) || !reflect.DeepEqual(x, same) {
		t.Errorf("%+v from %+v, not %+v", got, x, same)
	}
	of2 := of(x)
	places := slices.Concat(addresses(reflect.ValueOf(x)), addresses(reflect.ValueOf(got)), addresses(reflect.ValueOf(of2)))
	count := len(places)
	slices.Sort(places)
	if n := len(slices.Compact(places)); n != count || count == 0 {
		t.Errorf("%T: %d of %d lists are in one place", x, n, count)
	}
}

// equal reports whether two values are equal; nil and empty lists are.
func equal(a, b reflect.Value) bool {
	switch a.Kind() {
	case reflect.Struct:
		for i := range a.NumField() {
			if !equal(a.Field(i), b.Field(i)) {
				return false
			}
		}
		return true
	case reflect.Slice:
		if a.Len() != b.Len() {
			return false
		}
		for i := range a.Len() {
			if !equal(a.Index(i), b.Index(i)) {
				return false
			}
		}
		return true
	}
	return a.Equal(b)
}

// Rule R3: copies share no memory with what they are made of, nor with each other.
func TestCopies(t *testing.T) {
	checkCopy(t, Schema)
	checkCopy(t, Entry)
	checkCopy(t, Installed)
	checkCopy(t, func(l []api.Installed) []api.Installed { return Each(l, Installed) })
	checkCopy(t, func(l []api.Entry) []api.Entry { return Each(l, Entry) })
}

// Rule R3: a change of a copy is not one of what it was made of, and the other way round.
func TestChanges(t *testing.T) {
	x := api.Installed{Entry: api.Entry{Matches: []api.Match{{Present: true}}, Args: []api.Value{{Lo: 1}}}, Number: 1}
	y := Installed(x)
	x.Entry.Matches[0].Prefix = 8
	y.Entry.Args[0].Lo = 2
	if y.Entry.Matches[0].Prefix != 0 || x.Entry.Args[0].Lo != 1 {
		t.Errorf("%+v, %+v", x, y)
	}
	s := api.Schema{Roles: []api.Role{{Grants: []api.Grant{{Keys: []bool{true}}}}}}
	c := Schema(s)
	s.Roles[0].Grants[0].Keys[0] = false
	if !c.Roles[0].Grants[0].Keys[0] {
		t.Errorf("%+v", c)
	}
}
