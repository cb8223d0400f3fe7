package tests

import (
	"fmt"
	"slices"
	"strings"
	"testing"

	"loop.example/g00838/impl"
)

// Promise 9 for lines of classes and filters, and for the places of classes.

// checkHead compares what ClassHead returns with a text.
func checkHead(t *testing.T, x impl.Class, want string, ok bool) {
	t.Helper()
	if got, gotOk := impl.ClassHead(x); got != want || gotOk != ok {
		t.Errorf("ClassHead(%v) = %q, %v and not %q, %v", x, got, gotOk, want, ok)
	}
}

// checkFilterLine compares what FilterLine returns with a text.
func checkFilterLine(t *testing.T, x impl.Filter, want string, ok bool) {
	t.Helper()
	if got, gotOk := impl.FilterLine(x); got != want || gotOk != ok {
		t.Errorf("FilterLine(%v) = %q, %v and not %q, %v", x, got, gotOk, want, ok)
	}
}

func TestClassHead(t *testing.T) {
	for _, x := range []struct {
		class impl.Class
		want  string
	}{
		{impl.Class{Id: 7, Rate: 9000, Ceil: 9500, Burst: 1500, Cburst: 1500}, "class 7 rate 9k ceil 9500 burst 1500 cburst 1500 prio 0"},
		{impl.Class{Id: 1, Rate: 1, Ceil: 1, Burst: 1500, Cburst: 1500}, "class 1 rate 1 ceil 1 burst 1500 cburst 1500 prio 0"},
		{impl.Class{Id: 999, Rate: 100000, Ceil: 100000, Burst: 1000000, Cburst: 1000000, Prio: 7}, "class 999 rate 100k ceil 100k burst 1m cburst 1m prio 7"},
		{impl.Class{Id: 100, Rate: 1, Ceil: 100000, Burst: 1500, Cburst: 1000000, Prio: 1}, "class 100 rate 1 ceil 100k burst 1500 cburst 1m prio 1"},
		{impl.Class{Id: 20, Rate: 999, Ceil: 1000, Burst: 1000000, Cburst: 1500, Prio: 2}, "class 20 rate 999 ceil 1k burst 1m cburst 1500 prio 2"},
		{impl.Class{Id: 3, Rate: 1001, Ceil: 99999, Burst: 999000, Cburst: 999999, Prio: 3}, "class 3 rate 1001 ceil 99999 burst 999k cburst 999999 prio 3"},
		{impl.Class{Id: 4, Rate: 10, Ceil: 20000, Burst: 2000, Cburst: 100100, Prio: 4}, "class 4 rate 10 ceil 20k burst 2k cburst 100100 prio 4"},
	} {
		checkHead(t, x.class, x.want, true)
		// The Parent and the Limit are not in the head, whatever they are.
		for _, n := range extremes {
			other := x.class
			other.Parent, other.Limit = n, n
			checkHead(t, other, x.want, true)
		}
	}
}

// isHead reports whether a class has a head.
func isHead(x impl.Class) bool {
	return isIn(x.Id, 1, 999) && 1 <= x.Rate && x.Rate <= x.Ceil && x.Ceil <= 100000 &&
		isIn(x.Burst, 1500, 1000000) && isIn(x.Cburst, 1500, 1000000) && isIn(x.Prio, 0, 7)
}

func TestBoundsOfHeads(t *testing.T) {
	near := []int{6, 9, 998, 999, 1000, 1499, 1500, 1501, 8999, 9000, 9001, 9499, 9500, 9501, 99999, 100000, 100001, 999999}
	for _, x := range []impl.Class{
		{Id: 7, Rate: 9000, Ceil: 9500, Burst: 1500, Cburst: 1500},
		{Id: 999, Rate: 100000, Ceil: 100000, Burst: 1000000, Cburst: 1000000, Prio: 7},
	} {
		for field := range 6 {
			accepted := 0
			for _, n := range slices.Concat(near, extremes) {
				y := x
				*[]*int{&y.Id, &y.Rate, &y.Ceil, &y.Burst, &y.Cburst, &y.Prio}[field] = n
				if !isHead(y) {
					checkHead(t, y, "", false)
					continue
				}
				accepted++
				checkHead(t, y, strings.TrimSpace(headText(y, slowUnit)), true)
			}
			if accepted == 0 {
				t.Errorf("the field %d has no number that is accepted", field)
			}
		}
	}
}

func TestOneBeyondEachBoundOfHeads(t *testing.T) {
	least := impl.Class{Id: 1, Rate: 1, Ceil: 1, Burst: 1500, Cburst: 1500}
	most := impl.Class{Id: 999, Rate: 100000, Ceil: 100000, Burst: 1000000, Cburst: 1000000, Prio: 7}
	checkHead(t, least, "class 1 rate 1 ceil 1 burst 1500 cburst 1500 prio 0", true)
	checkHead(t, most, "class 999 rate 100k ceil 100k burst 1m cburst 1m prio 7", true)
	for _, change := range []func(x *impl.Class, by int){
		func(x *impl.Class, by int) { x.Id += by },
		func(x *impl.Class, by int) { x.Rate += by },
		func(x *impl.Class, by int) { x.Ceil += by },
		func(x *impl.Class, by int) { x.Rate, x.Ceil = x.Rate+by, x.Ceil+by },
		func(x *impl.Class, by int) { x.Burst += by },
		func(x *impl.Class, by int) { x.Cburst += by },
		func(x *impl.Class, by int) { x.Prio += by },
	} {
		checkHead(t, changedClass(least, func(x *impl.Class) { change(x, -1) }), "", false)
		checkHead(t, changedClass(most, func(x *impl.Class) { change(x, 1) }), "", false)
	}
	// A Rate is at most its Ceil.
	checkHead(t, impl.Class{Id: 1, Rate: 10, Ceil: 9, Burst: 1500, Cburst: 1500}, "", false)
	checkHead(t, impl.Class{}, "", false)
}

func TestFilterLine(t *testing.T) {
	for _, x := range []struct {
		filter impl.Filter
		want   string
	}{
		{impl.Filter{Prio: 5, Field: 2, Mask: 65535, Value: 80, Target: 2}, "filter 5 port 0x50 / 0xffff -> 2;"},
		{impl.Filter{Prio: 1, Field: 0, Mask: 0, Value: 0, Target: 1}, "filter 1 source 0x0 / 0x0 -> 1;"},
		{impl.Filter{Prio: 99, Field: 3, Mask: 65535, Value: 65535, Target: 999}, "filter 99 mark 0xffff / 0xffff -> 999;"},
		{impl.Filter{Prio: 10, Field: 1, Mask: 65535, Value: 0, Target: 100}, "filter 10 dest 0x0 / 0xffff -> 100;"},
		{impl.Filter{Prio: 9, Field: 3, Mask: 4096, Value: 4096, Target: 10}, "filter 9 mark 0x1000 / 0x1000 -> 10;"},
		{impl.Filter{Prio: 50, Field: 0, Mask: 43981, Value: 43008, Target: 500}, "filter 50 source 0xa800 / 0xabcd -> 500;"},
		{impl.Filter{Prio: 2, Field: 2, Mask: 1000, Value: 1000, Target: 7}, "filter 2 port 0x3e8 / 0x3e8 -> 7;"},
	} {
		checkFilterLine(t, x.filter, x.want, true)
		if got := slowFilterLine(x.filter); got != x.want {
			t.Errorf("the slow line is %q", got)
		}
		if y, fault, ok := impl.ParseFilter(x.want); y != x.filter || fault.Kind != 0 || !ok {
			t.Errorf("ParseFilter(%q) = %v, %v, %v", x.want, y, fault, ok)
		}
	}
}

// hasLine reports whether a filter has a line.
func hasLine(x impl.Filter) bool {
	return isIn(x.Prio, 1, 99) && isIn(x.Field, 0, 3) && isIn(x.Target, 1, 999) &&
		isIn(x.Mask, 0, 65535) && isIn(x.Value, 0, 65535) && x.Value|x.Mask == x.Mask
}

func TestBoundsOfFilterLines(t *testing.T) {
	x := impl.Filter{Prio: 5, Field: 2, Mask: 255, Value: 80, Target: 2}
	for _, y := range []impl.Filter{
		{}, changedFilter(x, func(x *impl.Filter) { x.Mask = 0 }), changedFilter(x, func(x *impl.Filter) { x.Mask = 79 }),
		changedFilter(x, func(x *impl.Filter) { x.Value = 256 }), changedFilter(x, func(x *impl.Filter) { x.Value = 255 + 256 }),
		changedFilter(x, func(x *impl.Filter) { x.Mask, x.Value = 65536, 65536 }), changedFilter(x, func(x *impl.Filter) { x.Mask, x.Value = -1, 80 }),
		changedFilter(x, func(x *impl.Filter) { x.Mask, x.Value = -1, -1 }), changedFilter(x, func(x *impl.Filter) { x.Mask, x.Value = 65536+80, 80 }),
	} {
		checkFilterLine(t, y, "", false)
	}
	near := []int{6, 79, 80, 81, 98, 99, 100, 998, 999, 1000}
	for field := range 5 {
		accepted := 0
		for _, n := range slices.Concat(near, extremes) {
			y := x
			*[]*int{&y.Prio, &y.Field, &y.Mask, &y.Value, &y.Target}[field] = n
			if !hasLine(y) {
				checkFilterLine(t, y, "", false)
				continue
			}
			accepted++
			checkFilterLine(t, y, slowFilterLine(y), true)
		}
		if accepted == 0 {
			t.Errorf("the field %d has no number that is accepted", field)
		}
	}
}

// changedFilter returns a filter after a change of a copy.
func changedFilter(x impl.Filter, change func(x *impl.Filter)) impl.Filter {
	change(&x)
	return x
}

func TestLinesOfAllClassesAndFiltersAreThoseOfTheText(t *testing.T) {
	for _, c := range printedConfigs() {
		p := slowPrint(c)
		for i, x := range c.Classes {
			line, _ := impl.LineText(p.text(), p.first[i])
			end := " {"
			if len(slowChildren(c, i)) == 0 {
				end = fmt.Sprintf(" limit %d;", x.Limit)
			}
			level := len(slowPath(c, i))
			if head, ok := impl.ClassHead(x); line != fmt.Sprintf("%*s%s%s", 2*level, "", head, end) || !ok {
				t.Fatalf("ClassHead(%v) = %q, %v, but its line is %q", x, head, ok, line)
			}
		}
		for i, x := range c.Filters {
			line := p.lines[len(p.lines)-1-len(c.Filters)+i]
			if got, ok := impl.FilterLine(x); "  "+got != line || !ok {
				t.Fatalf("FilterLine(%v) = %q, %v, but its line is %q", x, got, ok, line)
			}
		}
	}
}

// checkLines compares what LineOfClass and LinesOfPart return with the numbers of lines.
func checkLines(t *testing.T, c impl.Config, i, first, last int, ok bool) {
	t.Helper()
	if n, gotOk := impl.LineOfClass(c, i); n != first || gotOk != ok {
		t.Fatalf("LineOfClass(%s, %d) = %d, %v and not %d", briefly(c), i, n, gotOk, first)
	}
	if a, b, gotOk := impl.LinesOfPart(c, i); a != first || b != last || gotOk != ok {
		t.Fatalf("LinesOfPart(%s, %d) = %d, %d, %v and not %d, %d", briefly(c), i, a, b, gotOk, first, last)
	}
}

// checkWalk compares what WalkClasses and TreeText return with indices and a text.
func checkWalk(t *testing.T, c impl.Config, walk []int, tree string, ok bool) {
	t.Helper()
	if l, gotOk := impl.WalkClasses(c); !slices.Equal(l, walk) || gotOk != ok {
		t.Fatalf("WalkClasses(%s) = %v, %v and not %v", briefly(c), l, gotOk, walk)
	}
	if text, gotOk := impl.TreeText(c); text != tree || gotOk != ok {
		t.Fatalf("TreeText(%s) = %q, %v and not %q", briefly(c), text, gotOk, tree)
	}
}

func TestLinesOfCrossedIds(t *testing.T) {
	for i, x := range []struct{ first, last int }{
		// The classes 1, 5, 10, 20, 50, 60, 70 and 90.
		{5, 5}, {10, 10}, {3, 7}, {8, 8}, {2, 13}, {11, 11}, {9, 12}, {4, 6},
	} {
		checkLines(t, crossed(), i, x.first, x.last, true)
		// Neither the Default nor the filters move a class.
		checkLines(t, changed(crossed(), func(c *impl.Config) { c.Default, c.Filters = 0, nil }), i, x.first, x.last, true)
	}
	checkWalk(t, crossed(), []int{4, 2, 7, 0, 3, 6, 1, 5}, "50\n  10\n    90\n      1\n  20\n  70\n    5\n    60\n", true)
}

func TestLinesOfOtherConfigs(t *testing.T) {
	checkLines(t, single(), 0, 2, 2, true)
	checkWalk(t, single(), []int{0}, "1\n", true)

	deep := chain(999, 8, 7, 6, 5, 4, 3, 2)
	for i := range 8 {
		// The first index is that of the deepest class, and the last one that of the top.
		checkLines(t, deep, i, 9-i, 9+i, true)
	}
	checkWalk(t, deep, []int{7, 6, 5, 4, 3, 2, 1, 0}, "999\n  8\n    7\n      6\n        5\n          4\n            3\n              2\n", true)

	checkLines(t, crowded(), 11, 2, 26, true)
	for i := range 24 {
		switch {
		case i < 11:
			checkLines(t, crowded(), i, 3+i, 3+i, true)
		case i > 11:
			checkLines(t, crowded(), i, 2+i, 2+i, true)
		}
	}
	checkWalk(t, star(2, 3), []int{1, 0, 2}, "2\n  1\n  3\n", true)

	// The children of 2 lie between those of 1 and of 3.
	mixed := configOf(innerClass(9, 0, 9), innerClass(1, 9, 2), innerClass(2, 9, 2), innerClass(3, 9, 2),
		leafClass(4, 3), leafClass(5, 2), leafClass(6, 1), leafClass(7, 3), leafClass(8, 2), leafClass(10, 1))
	checkWalk(t, mixed, []int{8, 0, 5, 9, 1, 4, 7, 2, 3, 6}, "9\n  1\n    6\n    10\n  2\n    5\n    8\n  3\n    4\n    7\n", true)
	for i, x := range []struct{ first, last int }{{3, 6}, {7, 10}, {11, 14}, {12, 12}, {8, 8}, {4, 4}, {13, 13}, {9, 9}, {2, 15}, {5, 5}} {
		checkLines(t, mixed, i, x.first, x.last, true)
	}
}

func TestPromise9PlacesOfAllClasses(t *testing.T) {
	for _, c := range printedConfigs() {
		p := slowPrint(c)
		checkWalk(t, c, p.order, p.tree, true)
		for i := range c.Classes {
			checkLines(t, c, i, p.first[i], p.last[i], true)
		}
		for _, i := range append([]int{len(c.Classes), len(c.Classes) + 1, 100}, extremes...) {
			if i < 0 || i >= len(c.Classes) {
				checkLines(t, c, i, 0, 0, false)
			}
		}
	}
}

// TestPromise9PartsLieInTheText checks the places of classes by means of the program alone.
func TestPromise9PartsLieInTheText(t *testing.T) {
	for _, c := range printedConfigs() {
		text, _ := impl.PrintConfig(c)
		order, _ := impl.WalkClasses(c)
		before := 1
		for _, i := range order {
			first, last, ok := impl.LinesOfPart(c, i)
			line, _ := impl.LineText(text, first)
			head, _ := impl.ClassHead(c.Classes[i])
			level, _ := impl.WayUp(c, i)
			if begin := fmt.Sprintf("%*s%s ", 2*len(level), "", head); !ok || first <= before || last < first || len(line) < len(begin) || line[:len(begin)] != begin {
				t.Fatalf("LinesOfPart(%s, %d) = %d, %d, %v, where the line is %q", briefly(c), i, first, last, ok, line)
			}
			before = first
			if n, ok := impl.LineOfClass(c, i); n != first || !ok {
				t.Fatalf("LineOfClass(%s, %d) = %d, %v", briefly(c), i, n, ok)
			}
			for k := range c.Classes {
				n, _ := impl.LineOfClass(c, k)
				if below, _ := impl.IsBelow(c, k, i); below != (first <= n && n <= last) {
					t.Fatalf("the class %d of %s is in the line %d, and the part of %d in %d to %d", k, briefly(c), n, i, first, last)
				}
			}
			end, _ := impl.LineText(text, last)
			if children, _ := impl.ChildClasses(c, i); len(children) > 0 && end != fmt.Sprintf("%*s}", 2*len(level), "") {
				t.Fatalf("the part of %d in %q ends with %q", i, text, end)
			}
		}
	}
}

func TestInvalidConfigsHaveNoPlaces(t *testing.T) {
	for _, c := range mixedConfigs() {
		if firstBroken(c) != 0 {
			checkWalk(t, c, nil, "", false)
			for _, i := range []int{-1, 0, 1, len(c.Classes) - 1, len(c.Classes)} {
				checkLines(t, c, i, 0, 0, false)
			}
			continue
		}
		p := slowPrint(c)
		checkWalk(t, c, p.order, p.tree, true)
		for i := range c.Classes {
			checkLines(t, c, i, p.first[i], p.last[i], true)
		}
	}
}
