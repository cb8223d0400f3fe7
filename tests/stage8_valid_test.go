package tests

import (
	"slices"
	"testing"

	"loop.example/g00838/impl"
)

// Promise 8 for the conditions of chapter 8 and where they are broken.

// listSearch is a function of chapter 8 that lists what is broken in a configuration.
type listSearch struct {
	name string
	call func(c impl.Config) ([]int, bool)
}

var (
	brokenConditions = listSearch{"BrokenConditions", impl.BrokenConditions}
	badParents       = listSearch{"BadParents", impl.BadParents}
	cycleClasses     = listSearch{"CycleClasses", impl.CycleClasses}
	deepClasses      = listSearch{"DeepClasses", impl.DeepClasses}
	overfullClasses  = listSearch{"OverfullClasses", impl.OverfullClasses}
	badTargets       = listSearch{"BadTargets", impl.BadTargets}
)

// checkList checks what a search returns for a configuration: a list, or none where ok is false.
func (s listSearch) checkList(t *testing.T, c impl.Config, want []int, ok bool) {
	t.Helper()
	if got, gotOk := s.call(c); !slices.Equal(got, want) || gotOk != ok {
		t.Errorf("%s(%s) = %v, %v, not %v, %v", s.name, briefly(c), got, gotOk, want, ok)
	}
}

// checkBroken checks that some conditions of a configuration do not hold, and that all others do.
func checkBroken(t *testing.T, c impl.Config, broken ...int) {
	t.Helper()
	brokenConditions.checkList(t, c, broken, true)
	for k := 1; k <= 10; k++ {
		if holds, ok := impl.ConditionHolds(c, k); holds == slices.Contains(broken, k) || !ok {
			t.Errorf("ConditionHolds(%s, %d) = %v, %v", briefly(c), k, holds, ok)
		}
	}
	if is := impl.IsConfig(c); is != (len(broken) == 0) {
		t.Errorf("IsConfig(%s) = %v", briefly(c), is)
	}
}

// checkAllSearches compares all that chapter 8 says of a configuration with what a slow search finds.
func checkAllSearches(t *testing.T, c impl.Config) {
	t.Helper()
	checkBroken(t, c, slowBroken(c)...)
	badParents.checkList(t, c, slowBadParents(c), true)
	cycleClasses.checkList(t, c, slowCycles(c), true)
	deepClasses.checkList(t, c, slowDeep(c), true)
	overfull, ok := slowOverfull(c)
	overfullClasses.checkList(t, c, overfull, ok)
	badTargets.checkList(t, c, slowBadTargets(c), true)
}

func TestPromise8AConfigurationIsValidExactlyIfNoConditionIsBroken(t *testing.T) {
	for _, c := range rawConfigs() {
		checkAllSearches(t, c)
	}
	for _, c := range []impl.Config{single(), crossed()} {
		for _, d := range changedInOneNumber(c) {
			checkAllSearches(t, d)
		}
	}
	for seed := range 100 {
		checkBroken(t, randomConfig(seed))
	}
}

func TestSearchesOfAllSmallTrees(t *testing.T) {
	for count := range 5 {
		for _, c := range everyLinked(count) {
			checkAllSearches(t, c)
		}
	}
}

func TestSearchesOfManyNumbers(t *testing.T) {
	for seed := range 4000 {
		checkAllSearches(t, randomRaw(seed))
	}
}

// TestEachConditionIsBrokenAlone has for each condition configurations that meet the nine other ones.
func TestEachConditionIsBrokenAlone(t *testing.T) {
	c := crossed()
	class := func(id int, change func(x *impl.Class)) impl.Config { return withClass(c, id, change) }
	filter := func(i int, change func(x *impl.Filter)) impl.Config { return withFilter(c, i, change) }
	whole := func(change func(c *impl.Config)) impl.Config { return changed(c, change) }
	with := func(classes ...impl.Class) impl.Config {
		return whole(func(c *impl.Config) { c.Classes = append(classes, c.Classes...) })
	}
	many := crowded()
	for broken, l := range map[int][]impl.Config{
		1: {
			whole(func(c *impl.Config) { c.Name = "" }), whole(func(c *impl.Config) { c.Name = "rate" }),
			whole(func(c *impl.Config) { c.Name = "abcdefghi" }), whole(func(c *impl.Config) { c.Name = "Eth" }),
		},
		2: {
			whole(func(c *impl.Config) { slices.Reverse(c.Classes) }), star(1, 25), star(7, 31),
			class(20, func(x *impl.Class) { x.Id = 1000 }), with(leafClass(-1, 50)),
			whole(func(c *impl.Config) { c.Classes = append(c.Classes, leafClass(1000, 50)) }),
			with(leafClass(-1<<63, 50)), with(leafClass(1, 50)), with(leafClass(1<<63-1, 50)),
			whole(func(c *impl.Config) { c.Classes[0], c.Classes[1] = c.Classes[1], c.Classes[0] }),
		},
		3: {
			class(20, func(x *impl.Class) { x.Parent = 0 }), class(70, func(x *impl.Class) { x.Parent = 0 }),
		},
		4: {
			chain(9, 8, 7, 6, 5, 4, 3, 2, 1), chain(1, 2, 3, 4, 5, 6, 7, 8, 9),
			whole(func(c *impl.Config) { c.Classes = append(c.Classes, innerClass(998, 998, 5)) }),
			whole(func(c *impl.Config) { c.Classes = append(c.Classes, innerClass(998, 999, 5), innerClass(999, 998, 5)) }),
			whole(func(c *impl.Config) {
				c.Classes = append(c.Classes, innerClass(997, 999, 5), innerClass(998, 997, 5), innerClass(999, 998, 5))
			}),
		},
		5: {
			class(20, func(x *impl.Class) { x.Rate = 0 }), class(20, func(x *impl.Class) { x.Ceil = 29 }),
			class(50, func(x *impl.Class) { x.Rate, x.Ceil = 100001, 100001 }), class(20, func(x *impl.Class) { x.Ceil = 100001 }),
			class(50, func(x *impl.Class) { x.Rate = 1000000000 }), class(20, func(x *impl.Class) { x.Ceil = -1 << 63 }),
		},
		6: {
			class(50, func(x *impl.Class) { x.Rate = 100 }), class(10, func(x *impl.Class) { x.Rate = 29 }),
			class(70, func(x *impl.Class) { x.Rate = 39 }), class(20, func(x *impl.Class) { x.Rate, x.Ceil = 40, 40 }),
		},
		7: {
			class(20, func(x *impl.Class) { x.Burst = 1499 }), class(20, func(x *impl.Class) { x.Burst = 1000001 }),
			class(10, func(x *impl.Class) { x.Cburst = 1499 }), class(1, func(x *impl.Class) { x.Cburst = 1000001 }),
			class(20, func(x *impl.Class) { x.Prio = -1 }), class(50, func(x *impl.Class) { x.Prio = 8 }),
		},
		8: {
			class(20, func(x *impl.Class) { x.Limit = 0 }), class(20, func(x *impl.Class) { x.Limit = 61 }),
			class(10, func(x *impl.Class) { x.Limit = 1 }), class(50, func(x *impl.Class) { x.Limit = -1 }),
		},
		9: {
			whole(func(c *impl.Config) { slices.Reverse(c.Filters) }), filter(0, func(x *impl.Filter) { x.Prio = 0 }),
			filter(1, func(x *impl.Filter) { x.Prio = 1 }), filter(2, func(x *impl.Filter) { x.Prio = 100 }),
			filter(0, func(x *impl.Filter) { x.Field = 4 }), filter(0, func(x *impl.Filter) { x.Field = -1 }),
			filter(0, func(x *impl.Filter) { x.Mask = 65536 }), filter(1, func(x *impl.Filter) { x.Value = 1 }),
			filter(0, func(x *impl.Filter) { x.Mask = 65534 }), filter(2, func(x *impl.Filter) { x.Mask, x.Value = -1, -1 }),
			filter(2, func(x *impl.Filter) { x.Target = 10 }), filter(2, func(x *impl.Filter) { x.Target = 0 }),
			filter(2, func(x *impl.Filter) { x.Target = 999 }),
			changed(many, func(c *impl.Config) { c.Filters = append(c.Filters, impl.Filter{Prio: 17, Target: 24}) }),
		},
		10: {
			whole(func(c *impl.Config) { c.Default = 10 }), whole(func(c *impl.Config) { c.Default = 50 }),
			whole(func(c *impl.Config) { c.Default = 999 }), whole(func(c *impl.Config) { c.Default = -1 << 63 }),
		},
	} {
		for _, d := range l {
			checkBroken(t, d, broken)
		}
	}
	checkBroken(t, c)
	checkBroken(t, many)
	checkBroken(t, whole(func(c *impl.Config) { c.Classes = append(c.Classes, leafClass(999, 50)) }))
	checkBroken(t, single())
}

func TestSeveralConditionsAreBroken(t *testing.T) {
	c := crossed()
	for _, x := range []struct {
		config impl.Config
		broken []int
	}{
		{impl.Config{}, []int{1, 2, 3}},
		{impl.Config{Default: 1}, []int{1, 2, 3, 10}},
		{impl.Config{Classes: make([]impl.Class, 40), Filters: make([]impl.Filter, 40), Default: -1}, []int{1, 2, 3, 4, 5, 7, 9, 10}},
		{changed(c, func(c *impl.Config) { c.Name, c.Default = "rate", 999 }), []int{1, 10}},
		// A Parent that is no class's Id breaks both conditions of ways up.
		{withClass(c, 20, func(x *impl.Class) { x.Parent = 21 }), []int{3, 4}},
		{withClass(c, 50, func(x *impl.Class) { x.Parent = 51 }), []int{3, 4}},
		{withClass(c, 20, func(x *impl.Class) { x.Parent = -1 }), []int{3, 4}},
		// The children of a class that is its own parent are one more.
		{withClass(c, 20, func(x *impl.Class) { x.Parent = 20 }), []int{4, 8}},
		{withClass(c, 10, func(x *impl.Class) { x.Parent = 10 }), []int{4, 6}},
		{withClass(c, 50, func(x *impl.Class) { x.Parent = 50 }), []int{3, 4, 6}},
		// Without any top all ways up end in a ring.
		{withClass(c, 50, func(x *impl.Class) { x.Parent = 1 }), []int{3, 4, 6, 8, 9}},
		// Tops are below a class with the Id 0.
		{changed(c, func(c *impl.Config) { c.Classes = append([]impl.Class{leafClass(0, 50)}, c.Classes...) }), []int{2, 4, 6, 8}},
		{changed(c, func(c *impl.Config) { c.Classes = append([]impl.Class{leafClass(0, 51)}, c.Classes...) }), []int{2, 3, 4, 6, 8}},
		{withClass(c, 20, func(x *impl.Class) { x.Rate = -1 }), []int{5, 6}},
		{withClass(c, 50, func(x *impl.Class) { x.Rate = 1000000001 }), []int{5, 6}},
		{withClass(c, 50, func(x *impl.Class) { x.Rate = 1<<63 - 1 }), []int{5, 6}},
		{withClass(c, 20, func(x *impl.Class) { x.Rate = -1 << 63 }), []int{5, 6}},
		{withClass(c, 50, func(x *impl.Class) { x.Rate = 0 }), []int{5, 6}},
	} {
		checkBroken(t, x.config, x.broken...)
	}
}

func TestConditionsWithOtherNumbersAreRefused(t *testing.T) {
	for _, c := range []impl.Config{{}, single(), crossed()} {
		for _, k := range append([]int{11, 12, 40, 256 + 1}, extremes...) {
			holds, ok := impl.ConditionHolds(c, k)
			if inside := k >= 1 && k <= 10; ok != inside || holds && !inside {
				t.Errorf("ConditionHolds(%v, %d) = %v, %v", c, k, holds, ok)
			}
		}
	}
}

func TestEveryNameIsLookedAt(t *testing.T) {
	for _, name := range append(sampleTexts(), "a", "abcdefgh", "abcdefghi", "qdisc", "qdiscs") {
		checkAllSearches(t, changed(crossed(), func(c *impl.Config) { c.Name = name }))
	}
}

// TestWaysUp has links, and the classes with bad parents, those on rings and the deep ones.
func TestWaysUp(t *testing.T) {
	for _, x := range []struct {
		links              [][2]int
		bad, cycles, depth []int
	}{
		{nil, nil, nil, nil},
		{[][2]int{{1, 0}}, nil, nil, nil},
		{[][2]int{{1, 2}}, []int{0}, nil, nil},
		{[][2]int{{1, -1}, {2, 1}}, []int{0}, nil, nil},
		// Rings of one, two and three classes, and ways into them.
		{[][2]int{{1, 1}}, nil, []int{0}, []int{0}},
		{[][2]int{{2, 1}, {1, 1}, {3, 2}}, nil, []int{1}, []int{0, 1, 2}},
		{[][2]int{{1, 2}, {2, 1}, {4, 9}}, []int{2}, []int{0, 1}, []int{0, 1}},
		{[][2]int{{5, 4}, {1, 2}, {4, 3}, {2, 1}, {3, 2}}, nil, []int{1, 3}, []int{0, 1, 2, 3, 4}},
		{[][2]int{{1, 2}, {9, 0}, {2, 3}, {3, 1}, {4, 3}, {8, 9}}, nil, []int{0, 2, 3}, []int{0, 2, 3, 4}},
		{[][2]int{{-7, -8}, {-8, -7}}, nil, []int{0, 1}, []int{0, 1}},
		// A class with the Id 0 is above tops.
		{[][2]int{{0, 0}}, nil, []int{0}, []int{0}},
		{[][2]int{{1, 0}, {0, 0}}, nil, []int{1}, []int{0, 1}},
		{[][2]int{{1, 0}, {0, 2}, {2, 1}, {3, 0}}, nil, []int{0, 1, 2}, []int{0, 1, 2, 3}},
		{[][2]int{{1, 0}, {0, 5}, {2, 1}}, []int{1}, nil, nil},
		// Of several classes with one Id, only the first one is above others.
		{[][2]int{{1, 2}, {2, 1}, {1, 2}}, nil, []int{0, 1}, []int{0, 1, 2}},
		{[][2]int{{1, 0}, {1, 1}, {2, 1}}, nil, nil, nil},
		{[][2]int{{1, 1}, {1, 0}, {2, 1}}, nil, []int{0}, []int{0, 2}},
		{[][2]int{{1, 3}, {3, 0}, {3, 1}}, nil, nil, nil},
		{[][2]int{{0, 9}, {0, 0}}, []int{0}, nil, nil},
		// The way up from the last one of eight has MaxDepth classes.
		{ladder(8, 0), nil, nil, nil},
		{ladder(9, 0), nil, nil, []int{8}},
		{append(ladder(8, 0), [2]int{20, 8}, [2]int{21, 8}, [2]int{22, 7}), nil, nil, []int{8, 9}},
		{append(ladder(8, 0), [2]int{0, -1}), []int{8}, nil, []int{7}},
		{ladder(8, 99), []int{0}, nil, nil},
		{ladder(9, 99), []int{0}, nil, []int{8}},
		{ladder(40, 0), nil, nil, upFrom(8, 40)},
		{ladder(40, 40), nil, upFrom(0, 40), upFrom(0, 40)},
		{ladder(40, 8), nil, upFrom(0, 8), upFrom(0, 40)},
		{ladder(40, 1), nil, []int{0}, upFrom(0, 40)},
	} {
		c := rawOfLinks(x.links...)
		badParents.checkList(t, c, x.bad, true)
		cycleClasses.checkList(t, c, x.cycles, true)
		deepClasses.checkList(t, c, x.depth, true)
		checkAllSearches(t, c)
	}
}

// upFrom returns the numbers from one number up to another one, which is not included.
func upFrom(first, end int) []int {
	var l []int
	for n := first; n < end; n++ {
		l = append(l, n)
	}
	return l
}

func TestOverfullClasses(t *testing.T) {
	rated := func(id, parent, rate int) impl.Class { return impl.Class{Id: id, Parent: parent, Rate: rate} }
	of := func(classes ...impl.Class) impl.Config { return impl.Config{Classes: classes} }
	const billion = 1000000000
	for _, x := range []struct {
		config impl.Config
		want   []int
		ok     bool
	}{
		{of(), nil, true},
		{crossed(), nil, true},
		{of(rated(1, 0, 7), rated(2, 1, 3), rated(3, 1, 4)), nil, true},
		{of(rated(1, 0, 6), rated(2, 1, 3), rated(3, 1, 4)), []int{0}, true},
		{of(rated(3, 1, 4), rated(2, 1, 3), rated(1, 0, 6)), []int{2}, true},
		{of(rated(1, 0, 9), rated(2, 1, 3), rated(3, 2, 4)), []int{1}, true},
		{of(rated(1, 0, 2), rated(2, 1, 3), rated(3, 2, 4)), []int{0, 1}, true},
		// A class may be its own child, or a child of one with the Id 0.
		{of(rated(1, 1, 5)), nil, true},
		{of(rated(1, 1, 5), rated(2, 1, 0)), nil, true},
		{of(rated(1, 1, 5), rated(2, 1, 1)), []int{0}, true},
		{of(rated(1, 2, 5), rated(2, 1, 4)), []int{1}, true},
		{of(rated(0, 0, 5), rated(2, 0, 1)), []int{0}, true},
		{of(rated(0, 9, 5), rated(2, 0, 2), rated(3, 0, 4)), []int{0}, true},
		{of(rated(0, 9, 6), rated(2, 0, 2), rated(3, 0, 4)), nil, true},
		// All classes with one Id have the same children.
		{of(rated(1, 0, 4), rated(1, 0, 5), rated(2, 1, 5), rated(1, 0, 3)), []int{0, 3}, true},
		{of(rated(1, 0, 0), rated(2, 1, 0)), nil, true},
		{of(rated(1, 0, 0), rated(2, 1, 1)), []int{0}, true},
		{of(rated(1, 0, billion), rated(2, 1, billion)), nil, true},
		{of(rated(1, 0, billion), rated(2, 1, billion), rated(3, 1, 1)), []int{0}, true},
		{of(rated(1, 0, billion+1)), nil, false},
		{of(rated(1, 0, 5), rated(2, 1, billion+1)), nil, false},
		{of(rated(1, 0, -1)), nil, false},
		{of(rated(1, 0, 5), rated(2, 1, -1)), nil, false},
		{of(rated(1, 0, 5), rated(2, 7, 1<<63-1), rated(3, 8, 1)), nil, false},
		{of(rated(1, 0, 5), rated(2, 7, 1), rated(3, 8, -1<<63)), nil, false},
	} {
		overfullClasses.checkList(t, x.config, x.want, x.ok)
		holds, ok := impl.ConditionHolds(x.config, 6)
		if holds != (x.ok && len(x.want) == 0) || !ok {
			t.Errorf("ConditionHolds(%v, 6) = %v, %v", x.config, holds, ok)
		}
	}
	full := impl.Config{Classes: slices.Repeat([]impl.Class{rated(1, 1, billion)}, 40)}
	overfullClasses.checkList(t, full, upFrom(0, 40), true)
}

func TestBadTargets(t *testing.T) {
	to := func(c impl.Config, targets ...int) impl.Config {
		return changed(c, func(c *impl.Config) {
			c.Filters = nil
			for _, target := range targets {
				c.Filters = append(c.Filters, impl.Filter{Target: target})
			}
		})
	}
	for _, x := range []struct {
		config impl.Config
		want   []int
	}{
		{impl.Config{}, nil},
		{crossed(), nil},
		{to(crossed()), nil},
		{to(crossed(), 1, 5, 20, 60), nil},
		{to(crossed(), 10, 1, 50, 60, 70, 90, 5), []int{0, 2, 4, 5}},
		{to(crossed(), 0, 2, 999, -1, -1<<63, 1<<63-1, 1), []int{0, 1, 2, 3, 4, 5}},
		{to(impl.Config{}, 0, 1), []int{0, 1}},
		// A class that is its own parent is no leaf.
		{to(rawOfLinks([2]int{1, 1}, [2]int{2, 1}), 1, 2), []int{0}},
		{to(rawOfLinks([2]int{0, 5}, [2]int{5, 7}), 0, 5, 7), []int{1, 2}},
		{to(rawOfLinks([2]int{0, 5}, [2]int{5, 0}), 0, 5), []int{0, 1}},
		{to(rawOfLinks([2]int{-3, 0}, [2]int{-3, 1}), -3, -2), []int{1}},
		{to(rawOfLinks([2]int{3, 0}, [2]int{3, 1}, [2]int{2, 3}), 3, 2, 2), []int{0}},
		{to(crossed(), slices.Repeat([]int{50}, 40)...), upFrom(0, 40)},
		{to(crossed(), append(slices.Repeat([]int{5}, 39), 70)...), []int{39}},
	} {
		badTargets.checkList(t, x.config, x.want, true)
	}
}

func TestListsThatAreTooLongAreNotLookedAt(t *testing.T) {
	for _, c := range tooLongConfigs() {
		for _, s := range []listSearch{brokenConditions, badParents, cycleClasses, deepClasses, overfullClasses, badTargets} {
			s.checkList(t, c, nil, false)
		}
		for k := range 12 {
			if holds, ok := impl.ConditionHolds(c, k); holds || ok {
				t.Errorf("ConditionHolds(%s, %d) = %v, %v", briefly(c), k, holds, ok)
			}
		}
		got, ok := impl.RaiseRates(c)
		checkConfig(t, "RaiseRates of "+briefly(c), got, ok, impl.Config{}, false)
	}
}
