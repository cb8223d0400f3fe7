package tests

import (
	"slices"
	"testing"

	"loop.example/g00838/impl"
)

// Promise 10 for ends, children, parents and ways of types, and for attributes that are dropped and wrapped.

// checkAttrs compares attributes that a call returned.
func checkAttrs(t *testing.T, name string, got []impl.Attr, gotOk bool, want []impl.Attr, ok bool) {
	t.Helper()
	if !slices.Equal(got, want) || gotOk != ok {
		t.Errorf("%s = %s, %v and not %s, %v", name, briefly(got), gotOk, briefly(want), ok)
	}
}

// checkIndex compares an index that a call returned, where -1 stands for none.
func checkIndex(t *testing.T, name string, l []impl.Attr, of any, got int, gotOk bool, want int) {
	t.Helper()
	if got != max(want, 0) || gotOk != (want >= 0) {
		t.Errorf("%s(%s, %v) = %d, %v and not %d", name, briefly(l), of, got, gotOk, want)
	}
}

func checkEnd(t *testing.T, l []impl.Attr, i, want int) {
	t.Helper()
	end, ok := impl.EndOfAttr(l, i)
	checkIndex(t, "EndOfAttr", l, i, end, ok, want)
}

func checkParent(t *testing.T, l []impl.Attr, i, want int) {
	t.Helper()
	parent, ok := impl.ParentOf(l, i)
	checkIndex(t, "ParentOf", l, i, parent, ok, want)
}

func checkFound(t *testing.T, l []impl.Attr, types []int, want int) {
	t.Helper()
	i, ok := impl.FindAttr(l, types)
	checkIndex(t, "FindAttr", l, types, i, ok, want)
}

func checkChildren(t *testing.T, l []impl.Attr, i int, want []int, ok bool) {
	t.Helper()
	if got, gotOk := impl.ChildrenOf(l, i); !slices.Equal(got, want) || gotOk != ok {
		t.Errorf("ChildrenOf(%s, %d) = %v, %v and not %v, %v", briefly(l), i, got, gotOk, want, ok)
	}
}

// checkNoIndex checks that there are no answers for an index.
func checkNoIndex(t *testing.T, l []impl.Attr, i int) {
	t.Helper()
	checkEnd(t, l, i, -1)
	checkParent(t, l, i, -1)
	checkChildren(t, l, i, nil, false)
	got, ok := impl.DropAttr(l, i)
	checkAttrs(t, "DropAttr", got, ok, nil, false)
}

// checkNoAttrWalk checks that there are no answers about attributes that are not valid.
func checkNoAttrWalk(t *testing.T, l []impl.Attr) {
	t.Helper()
	for _, i := range []int{-1, 0, len(l) / 2, len(l) - 1, len(l)} {
		checkNoIndex(t, l, i)
	}
	for i := range min(len(l), 20) {
		checkFound(t, l, []int{l[i].Type}, -1)
	}
	for _, kind := range []int{-1, 0, 1, 32767, 32768} {
		got, ok := impl.WrapAttrs(kind, l)
		checkAttrs(t, "WrapAttrs", got, ok, nil, false)
	}
}

// checkAttrWalk compares all that is said of the places of valid attributes with their ways from Depth 1.
func checkAttrWalk(t *testing.T, l []impl.Attr) {
	t.Helper()
	ways := slowWays(l)
	for i, way := range ways {
		inside := 0
		for _, other := range ways {
			if slices.Contains(other, i) {
				inside++
			}
		}
		checkEnd(t, l, i, i+inside)
		checkParent(t, l, i, slowAttrParent(way))
		checkChildren(t, l, i, slowAttrChildren(ways, i), true)
		if len(l) <= 60 {
			checkFoundNear(t, l, way)
		}
	}
	checkNoIndex(t, l, -1)
	checkNoIndex(t, l, len(l))
}

// checkFoundNear looks for the types on a way, and for those that differ a little.
func checkFoundNear(t *testing.T, l []impl.Attr, way []int) {
	t.Helper()
	var types []int
	for _, i := range way {
		types = append(types, l[i].Type)
	}
	last := len(types) - 1
	for _, x := range [][]int{types, types[:last], types[1:], append(slices.Clone(types), types[last]), append([]int{types[0]}, types...)} {
		checkFound(t, l, x, slowFindAttr(l, x))
		for k := range x {
			for _, kind := range []int{0, 1, 2, 3} {
				y := slices.Clone(x)
				y[k] = kind
				checkFound(t, l, y, slowFindAttr(l, y))
			}
		}
	}
}

// checkEdits compares valid attributes that are dropped and wrapped with what is left and what is put around.
func checkEdits(t *testing.T, l []impl.Attr) {
	t.Helper()
	ways := slowWays(l)
	for i := range l {
		var want []impl.Attr
		for k, way := range ways {
			if !slices.Contains(way, i) {
				want = append(want, l[k])
			}
		}
		got, ok := impl.DropAttr(l, i)
		checkAttrs(t, "DropAttr", got, ok, want, true)
		checkAreAttrs(t, got, true)
	}
	for _, kind := range []int{0, 7, 32767} {
		want := deeperAttrs(l, nestedAttr(1, kind))
		fits := slowAreAttrs(want)
		if !fits {
			want = nil
		}
		got, ok := impl.WrapAttrs(kind, l)
		checkAttrs(t, "WrapAttrs", got, ok, want, fits)
	}
	for _, kind := range []int{-1 << 63, -1, 32768, 65536, 1 << 32, 1<<63 - 1} {
		got, ok := impl.WrapAttrs(kind, l)
		checkAttrs(t, "WrapAttrs", got, ok, nil, false)
	}
}

func TestEndOfAttr(t *testing.T) {
	for i, end := range []int{6, 2, 5, 5, 5, 6, 7, 11, 9, 11, 11, 12} {
		checkEnd(t, family(), i, end)
	}
	for i := range 8 {
		checkEnd(t, nestedLadder(8), i, 8)
		checkEnd(t, append(nestedLadder(8), flatAttr(4, 1, ""), flatAttr(1, 1, "")), i, []int{9, 9, 9, 8, 8, 8, 8, 8}[i])
	}
	// The last attribute ends at the number of attributes, and a nested one may be empty.
	checkEnd(t, flatAttrs(400), 399, 400)
	checkEnd(t, deeperAttrs(flatAttrs(399), nestedAttr(1, 1)), 0, 400)
	checkEnd(t, []impl.Attr{nestedAttr(1, 1)}, 0, 1)
	checkEnd(t, []impl.Attr{nestedAttr(1, 1), nestedAttr(1, 1)}, 0, 1)
	// It does not matter whether there is a binary form.
	checkEnd(t, attrsOfSize(7000), 6, 7)
	checkEnd(t, nil, 0, -1)
	for _, i := range extremes {
		if i < 0 || i >= 12 {
			checkNoIndex(t, family(), i)
		}
	}
}

func TestChildrenOf(t *testing.T) {
	for i, children := range [][]int{{1, 2, 5}, nil, {3}, {4}, nil, nil, nil, {8, 9}, nil, {10}, nil, nil} {
		checkChildren(t, family(), i, children, true)
	}
	checkChildren(t, nestedLadder(8), 0, []int{1}, true)
	checkChildren(t, nestedLadder(8), 7, nil, true)
	checkChildren(t, deeperAttrs(flatAttrs(399), nestedAttr(1, 1)), 0, upFrom(1, 400), true)
	checkChildren(t, []impl.Attr{nestedAttr(1, 1), nestedAttr(1, 1), flatAttr(2, 1, "")}, 0, nil, true)
	checkChildren(t, flatAttrs(2), 0, nil, true)
	checkChildren(t, nil, 0, nil, false)
}

func TestParentOf(t *testing.T) {
	for i, parent := range []int{-1, 0, 0, 2, 3, 0, -1, -1, 7, 7, 9, -1} {
		checkParent(t, family(), i, parent)
	}
	deep := append(nestedLadder(8), flatAttr(8, 1, ""), flatAttr(3, 1, ""), flatAttr(2, 1, ""), flatAttr(1, 1, ""))
	for i, parent := range []int{-1, 0, 1, 2, 3, 4, 5, 6, 6, 1, 0, -1} {
		checkParent(t, deep, i, parent)
	}
	// The last one before it with a Depth that is one less, of several.
	several := []impl.Attr{nestedAttr(1, 1), nestedAttr(2, 1), flatAttr(3, 1, ""), nestedAttr(1, 1), nestedAttr(2, 1), nestedAttr(2, 1), flatAttr(3, 1, "")}
	for i, parent := range []int{-1, 0, 1, -1, 3, 3, 5} {
		checkParent(t, several, i, parent)
	}
	checkParent(t, nil, 0, -1)
}

func TestFindAttr(t *testing.T) {
	for _, x := range []struct {
		types []int
		want  int
	}{
		{[]int{1}, 0}, {[]int{5}, 6}, {[]int{1, 3}, 1}, {[]int{1, 2}, 2}, {[]int{1, 2, 4}, 3}, {[]int{1, 2, 4, 3}, 4},
		// This is found only behind the second attribute with the first two types.
		{[]int{1, 2, 6}, 10},
		// Attributes of other Depths, and behind others.
		{[]int{2}, -1}, {[]int{3}, -1}, {[]int{6}, -1}, {[]int{2, 4}, -1}, {[]int{1, 4}, -1}, {[]int{1, 6}, -1}, {[]int{1, 2, 3}, -1},
		{[]int{5, 2}, -1}, {[]int{5, 5}, -1}, {[]int{1, 5}, -1}, {[]int{1, 3, 2}, -1}, {[]int{2, 1}, -1}, {[]int{1, 1}, -1}, {[]int{1, 2, 4, 3, 3}, -1},
		{nil, -1}, {[]int{}, -1}, {[]int{0}, -1}, {[]int{-1}, -1}, {[]int{32768}, -1}, {[]int{32769}, -1}, {[]int{1, 32770}, -1}, {[]int{1 << 32, 2}, -1},
		{[]int{1<<32 + 1}, -1}, {[]int{1, 2, 4, 3, 0, 0, 0, 0}, -1}, {[]int{1, 2, 4, 3, 0, 0, 0, 0, 0}, -1}, {make([]int, 100000), -1},
	} {
		checkFound(t, family(), x.types, x.want)
	}
	// Lists of exactly MaxNest types, and of one more.
	for depth := 1; depth <= 9; depth++ {
		want := depth - 1
		if depth == 9 {
			want = -1
		}
		checkFound(t, nestedLadder(8), upFrom(0, depth), want)
	}
	// The first of several, and one whose parent has a type that was that of another one before.
	checkFound(t, flatAttrs(400), []int{7}, 0)
	checkFound(t, append(flatAttrs(399), flatAttr(1, 8, "")), []int{8}, 399)
	again := []impl.Attr{nestedAttr(1, 1), flatAttr(2, 3, ""), nestedAttr(1, 2), flatAttr(2, 4, ""), nestedAttr(1, 1), flatAttr(2, 5, ""), flatAttr(2, 5, "")}
	checkFound(t, again, []int{1, 4}, -1)
	checkFound(t, again, []int{2, 3}, -1)
	checkFound(t, again, []int{1, 5}, 5)
	checkFound(t, again, []int{2, 4}, 3)
	checkFound(t, nil, []int{1}, -1)
	checkFound(t, nil, nil, -1)
	// It does not matter whether there is a binary form.
	checkFound(t, append(attrsOfSize(7000), flatAttr(1, 1, "")), []int{1}, 7)
}

func TestDropAttr(t *testing.T) {
	l := family()
	for _, x := range []struct {
		i    int
		want []impl.Attr
	}{
		{0, l[6:]},
		{1, slices.Concat(l[:1], l[2:])},
		{2, slices.Concat(l[:2], l[5:])},
		{3, slices.Concat(l[:3], l[5:])},
		{4, slices.Concat(l[:4], l[5:])},
		{5, slices.Concat(l[:5], l[6:])},
		{7, slices.Concat(l[:7], l[11:])},
		{11, l[:11]},
	} {
		got, ok := impl.DropAttr(l, x.i)
		checkAttrs(t, "DropAttr", got, ok, x.want, true)
	}
	for _, only := range [][]impl.Attr{flatAttrs(1), nestedLadder(1), nestedLadder(8), deeperAttrs(flatAttrs(399), nestedAttr(1, 1))} {
		got, ok := impl.DropAttr(only, 0)
		checkAttrs(t, "DropAttr", got, ok, nil, true)
	}
	// It does not matter whether there is a binary form.
	got, ok := impl.DropAttr(attrsOfSize(7000), 6)
	checkAttrs(t, "DropAttr", got, ok, attrsOfSize(7000)[:6], true)
}

func TestWrapAttrs(t *testing.T) {
	for _, x := range []struct {
		kind  int
		attrs []impl.Attr
		want  []impl.Attr
	}{
		{3, nil, []impl.Attr{nestedAttr(1, 3)}},
		{0, []impl.Attr{}, []impl.Attr{nestedAttr(1, 0)}},
		{32767, flatAttrs(1), []impl.Attr{nestedAttr(1, 32767), flatAttr(2, 7, "")}},
		{5, []impl.Attr{nestedAttr(1, 1), flatAttr(2, 2, "ab"), flatAttr(1, 3, "c")}, []impl.Attr{nestedAttr(1, 5), nestedAttr(2, 1), flatAttr(3, 2, "ab"), flatAttr(2, 3, "c")}},
		{1, nestedLadder(7), deeperAttrs(nestedLadder(7), nestedAttr(1, 1))},
		{1, flatAttrs(399), deeperAttrs(flatAttrs(399), nestedAttr(1, 1))},
		// It does not matter whether there is a binary form.
		{1, attrsOfSize(7000), deeperAttrs(attrsOfSize(7000), nestedAttr(1, 1))},
	} {
		got, ok := impl.WrapAttrs(x.kind, x.attrs)
		checkAttrs(t, "WrapAttrs", got, ok, x.want, true)
		checkAreAttrs(t, got, true)
	}
	for _, x := range []struct {
		kind  int
		attrs []impl.Attr
	}{
		{-1, nil}, {32768, nil}, {-1, family()}, {32768, family()}, {1, nestedLadder(8)}, {1, append(nestedLadder(7), flatAttr(8, 1, ""))},
		{1, append(flatAttrs(1), nestedLadder(8)...)}, {1, flatAttrs(400)}, {1, flatAttrs(401)},
		// These would be valid one deeper, but are not as they are.
		{1, []impl.Attr{flatAttr(0, 1, "")}}, {1, []impl.Attr{nestedAttr(1, 1), flatAttr(0, 1, "")}}, {1, []impl.Attr{flatAttr(2, 1, "")}},
		{1, []impl.Attr{flatAttr(1<<63-1, 1, "")}}, {1, []impl.Attr{flatAttr(1, -1, "")}},
	} {
		got, ok := impl.WrapAttrs(x.kind, x.attrs)
		checkAttrs(t, "WrapAttrs", got, ok, nil, false)
	}
}

func TestWrappedAttributesAreEncodedInsideANestedOne(t *testing.T) {
	for _, l := range sampleAttrs() {
		form, fits := impl.EncodeAttrs(l)
		wrapped, ok := impl.WrapAttrs(9, l)
		if !fits || !ok || len(form) > 5996 {
			continue
		}
		checkForm(t, wrapped, attrHead(4+len(form), 32768+9)+form)
		if back, ok := impl.DropAttr(wrapped, 0); len(back) != 0 || !ok {
			t.Errorf("DropAttr(%s, 0) = %v, %v", briefly(wrapped), back, ok)
		}
	}
}
