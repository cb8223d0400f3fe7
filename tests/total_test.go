package tests

import (
	"reflect"
	"slices"
	"testing"
)

// answer is what a call returned: its results but the last one, and this one.
type answer struct {
	results []any
	ok      bool
}

// isZero reports whether a result is the zero value of its type, or an empty slice, which is the same value as nil.
func isZero(result any) bool {
	v := reflect.ValueOf(result)
	return v.IsZero() || v.Kind() == reflect.Slice && v.Len() == 0
}

func (a answer) equals(b answer) bool {
	for i, result := range a.results {
		if !(isZero(result) && isZero(b.results[i])) && !reflect.DeepEqual(result, b.results[i]) {
			return false
		}
	}
	return a.ok == b.ok
}

// listsIn calls a function with each result that is a list, and its index.
func (a answer) listsIn(use func(i int, list reflect.Value)) {
	for i, result := range a.results {
		if v := reflect.ValueOf(result); v.Kind() == reflect.Slice {
			use(i, v)
		}
	}
}

// kept returns the answer with copies of its lists.
func (a answer) kept() answer {
	results := slices.Clone(a.results)
	a.listsIn(func(i int, list reflect.Value) {
		results[i] = reflect.AppendSlice(reflect.MakeSlice(list.Type(), 0, list.Len()), list).Interface()
	})
	return answer{results, a.ok}
}

// scribble changes all elements of the results, up to their capacity.
func (a answer) scribble() {
	a.listsIn(func(_ int, list reflect.Value) {
		for i := range list.Cap() {
			scribbleOn(list.Slice(0, list.Cap()).Index(i))
		}
	})
}

// scribbleOn changes an element of a list.
func scribbleOn(v reflect.Value) {
	switch v.Kind() {
	case reflect.Uint8:
		v.SetUint(v.Uint() ^ 0x5a)
	case reflect.Int:
		v.SetInt(v.Int() ^ 0x5a)
	case reflect.String:
		v.SetString(v.String() + "scribble")
	case reflect.Struct:
		for i := range v.NumField() {
			scribbleOn(v.Field(i))
		}
	default:
		panic("elements of this kind are not known: " + v.Type().String())
	}
}

// checkTotal checks what promise 33 and the conventions say of every call, with one that gets a list in front of one spare element or another.
func checkTotal[T any](t *testing.T, name func() string, list []T, spare, other T, call func(list []T) answer) {
	t.Helper()
	defer func() {
		if fault := recover(); fault != nil {
			t.Fatalf("%s panics: %v", name(), fault)
		}
	}()
	first := withSpare(list, spare)
	before := whole(first)
	got := call(first)
	if !reflect.DeepEqual(whole(first), before) {
		t.Fatalf("%s changes its argument", name())
	}
	for _, result := range got.results {
		if !got.ok && !isZero(result) {
			t.Fatalf("%s fails with %v", name(), result)
		}
	}
	want := got.kept()
	if again := call(withSpare(list, other)); !again.equals(want) {
		t.Fatalf("%s depends on more than its arguments: %v, %v", name(), want, again)
	}
	got.scribble()
	if !reflect.DeepEqual(whole(first), before) {
		t.Fatalf("%s returns memory of its argument", name())
	}
	scribbled := got.kept()
	// The first condition fails if the call reads that memory again, the second one if it writes it.
	if third := call(first); !third.equals(want) || !got.equals(scribbled) {
		t.Fatalf("%s returns memory that it uses again", name())
	}
}
