package tests

import (
	"reflect"
	"testing"
)

// answer is what a call returned: its results but the last one, and this one.
type answer struct {
	results []any
	ok      bool
}

// isZero reports whether a result is the zero value of its type, where an empty slice is the same value as nil.
func isZero(result any) bool {
	return copied(reflect.ValueOf(result), reflect.Value.Len).IsZero()
}

func (a answer) equals(b answer) bool {
	return reflect.DeepEqual(a.kept(), b.kept())
}

// kept returns the answer with copies of its lists.
func (a answer) kept() answer {
	results := make([]any, len(a.results))
	for i, result := range a.results {
		results[i] = copied(reflect.ValueOf(result), reflect.Value.Len).Interface()
	}
	return answer{results, a.ok}
}

// scribble changes all elements of the lists in the results, up to their capacity.
func (a answer) scribble() {
	for _, result := range a.results {
		scribbleOn(reflect.ValueOf(result))
	}
}

// scribbleOn changes all elements of the lists in a value, up to their capacity, and the value itself if it is an element of a list.
func scribbleOn(v reflect.Value) {
	switch v.Kind() {
	case reflect.Slice:
		for i := range v.Cap() {
			scribbleOn(v.Slice(0, v.Cap()).Index(i))
		}
	case reflect.Struct:
		for i := range v.NumField() {
			scribbleOn(v.Field(i))
		}
	case reflect.Uint8:
		if v.CanSet() {
			v.SetUint(v.Uint() ^ 0x5a)
		}
	case reflect.Int:
		if v.CanSet() {
			v.SetInt(v.Int() ^ 0x5a)
		}
	case reflect.String:
		if v.CanSet() {
			v.SetString(v.String() + "scribble")
		}
	case reflect.Bool:
		if v.CanSet() {
			v.SetBool(!v.Bool())
		}
	default:
		panic("values of this kind are not known: " + v.Type().String())
	}
}

// copied returns a copy of a value and of all lists in it, as far as a function says. Empty lists become nil.
func copied(v reflect.Value, size func(list reflect.Value) int) reflect.Value {
	if !holdsLists(v.Type()) {
		return v
	}
	fresh := reflect.New(v.Type()).Elem()
	if v.Kind() == reflect.Struct {
		for i := range v.NumField() {
			fresh.Field(i).Set(copied(v.Field(i), size))
		}
		return fresh
	}
	count := size(v)
	if count == 0 {
		return fresh
	}
	fresh.Set(reflect.MakeSlice(v.Type(), count, count))
	reflect.Copy(fresh, v.Slice(0, count))
	if holdsLists(v.Type().Elem()) {
		for i := range count {
			fresh.Index(i).Set(copied(fresh.Index(i), size))
		}
	}
	return fresh
}

// holdsLists reports whether values of a type are lists or have lists in them.
func holdsLists(t reflect.Type) bool {
	if t.Kind() != reflect.Struct {
		return t.Kind() == reflect.Slice
	}
	for i := range t.NumField() {
		if holdsLists(t.Field(i).Type) {
			return true
		}
	}
	return false
}

// whole returns a copy of an argument and of all the capacity of its lists.
func whole(argument any) any {
	return copied(reflect.ValueOf(argument), reflect.Value.Cap).Interface()
}

// checkTotal checks what promise 33 and the conventions say of every call, with one that gets an argument, and the same one with other elements in the spare capacity of its lists.
func checkTotal[T any](t *testing.T, name func() string, first, second T, call func(x T) answer) {
	t.Helper()
	defer func() {
		if fault := recover(); fault != nil {
			t.Fatalf("%s panics: %v", name(), fault)
		}
	}()
	before := whole(first)
	got := call(first)
	if !reflect.DeepEqual(whole(first), before) {
		t.Fatalf("%s changes its argument", name())
	}
	for _, result := range got.results {
		if !got.ok && !isZero(result) {
			t.Fatalf("%s fails with %v", name(), result)
		}
	}
	want := got.kept()
	if again := call(second); !again.equals(want) {
		t.Fatalf("%s depends on more than its arguments: %v, %v", name(), want, again)
	}
	got.scribble()
	if !reflect.DeepEqual(whole(first), before) {
		t.Fatalf("%s returns memory of its argument", name())
	}
	scribbled := got.kept()
	// The first condition fails if the call reads that memory again, the second one if it writes it.
	if third := call(first); !third.equals(want) || !got.equals(scribbled) {
		t.Fatalf("%s returns memory that it uses again", name())
	}
}
