package tests

import (
	"slices"
	"testing"

	"loop.example/g00838/impl"
)

// Promise 4 for the functions of chapter 4 that make configurations.

// checkConfig checks what a call that makes a configuration returned: a valid one, or none where ok is false.
func checkConfig(t *testing.T, name string, got impl.Config, gotOk bool, want impl.Config, ok bool) {
	t.Helper()
	if !ok {
		want = impl.Config{}
	}
	if !sameConfig(got, want) || gotOk != ok || impl.IsConfig(got) != ok {
		t.Errorf("%s = %v, %v, not %v, %v", name, got, gotOk, want, ok)
	}
}

func TestOrderConfig(t *testing.T) {
	for _, c := range checkedConfigs() {
		dice := diceFor(len(c.Classes))
		for range 5 {
			mixed := cloned(c)
			dice.Shuffle(len(mixed.Classes), func(i, k int) {
				mixed.Classes[i], mixed.Classes[k] = mixed.Classes[k], mixed.Classes[i]
			})
			dice.Shuffle(len(mixed.Filters), func(i, k int) {
				mixed.Filters[i], mixed.Filters[k] = mixed.Filters[k], mixed.Filters[i]
			})
			got, ok := impl.OrderConfig(mixed)
			checkConfig(t, "OrderConfig", got, ok, c, true)
		}
		got, ok := impl.OrderConfig(c)
		checkConfig(t, "OrderConfig of an ordered one", got, ok, c, true)
	}
}

func TestOrderConfigOfListsInTheOtherOrder(t *testing.T) {
	for _, c := range []impl.Config{crossed(), crowded()} {
		for _, d := range []impl.Config{
			changed(c, func(c *impl.Config) { slices.Reverse(c.Classes) }),
			changed(c, func(c *impl.Config) { slices.Reverse(c.Filters) }),
			changed(c, func(c *impl.Config) { slices.Reverse(c.Classes); slices.Reverse(c.Filters) }),
		} {
			got, ok := impl.OrderConfig(d)
			checkConfig(t, "OrderConfig", got, ok, c, true)
		}
	}
}

func TestOrderConfigRefusesWhatIsNotValidThen(t *testing.T) {
	for _, c := range brokenConfigs() {
		ordered := cloned(c)
		slices.SortFunc(ordered.Classes, func(a, b impl.Class) int { return a.Id - b.Id })
		slices.SortFunc(ordered.Filters, func(a, b impl.Filter) int { return a.Prio - b.Prio })
		got, ok := impl.OrderConfig(c)
		checkConfig(t, "OrderConfig", got, ok, ordered, firstBroken(ordered) == 0)
	}
	for _, c := range []impl.Config{
		changed(crossed(), func(c *impl.Config) { c.Classes = append(c.Classes, c.Classes[3]) }),
		changed(crossed(), func(c *impl.Config) { c.Filters = append(c.Filters, c.Filters[0]) }),
		changed(crossed(), func(c *impl.Config) { c.Classes = append(c.Classes, leafClass(0, 50)) }),
		changed(crossed(), func(c *impl.Config) { c.Classes = append(c.Classes, leafClass(-1<<63, 50), leafClass(1<<63-1, 50)) }),
		changed(crossed(), func(c *impl.Config) { c.Filters = append(c.Filters, impl.Filter{Target: 1}) }),
		changed(crossed(), func(c *impl.Config) { c.Classes = slices.Repeat(c.Classes, 1000) }),
		changed(crossed(), func(c *impl.Config) { c.Filters = slices.Repeat(c.Filters, 1000) }),
		star(1, 25),
		changed(crowded(), func(c *impl.Config) { c.Filters = append(c.Filters, impl.Filter{Prio: 17, Target: 24}) }),
	} {
		got, ok := impl.OrderConfig(c)
		checkConfig(t, "OrderConfig", got, ok, impl.Config{}, false)
	}
}

func TestAddClassInItsPlace(t *testing.T) {
	c := crossed()
	for _, want := range []struct{ id, parent, at, limit int }{
		{2, 50, 1, 0}, {3, 10, 1, 0}, {49, 50, 4, 0}, {51, 70, 5, 0}, {89, 90, 7, 0}, {91, 50, 8, 0}, {999, 70, 8, 0}, {15, 20, 3, 0}, {21, 20, 4, 0},
	} {
		x := leafClass(want.id, want.parent)
		x.Limit = 33
		// The classes 10 and 90 have no spare rate.
		from := withClass(withClass(c, 10, func(x *impl.Class) { x.Rate, x.Ceil = 31, 31 }), 1, func(x *impl.Class) { x.Rate = 29 })
		expected := cloned(from)
		expected.Classes[slowFind(from, want.parent)].Limit = 0
		expected.Classes = slices.Insert(expected.Classes, want.at, x)
		got, ok := impl.AddClass(from, x)
		checkConfig(t, "AddClass", got, ok, expected, true)
	}
	first := star(24, 24)
	first.Classes = first.Classes[5:]
	got, ok := impl.AddClass(first, leafClass(1, 24))
	checkConfig(t, "AddClass of the first one", got, ok, changed(first, func(c *impl.Config) {
		c.Classes = slices.Insert(c.Classes, 0, leafClass(1, 24))
	}), true)
}

func TestAddClassBelowALeaf(t *testing.T) {
	c := crossed()
	for _, want := range []struct {
		parent, rate int
		ok           bool
	}{
		{20, 30, true}, {20, 1, true}, {20, 31, false}, // the limit 9 of class 20 is gone
		{60, 1, false}, {1, 1, false}, // they are targets
		{5, 1, false}, // it is the default
	} {
		x := leafClass(300, want.parent)
		x.Rate, x.Ceil, x.Limit = want.rate, want.rate, 44
		expected := withClass(c, want.parent, func(x *impl.Class) { x.Limit = 0 })
		expected.Classes = append(expected.Classes, x)
		got, ok := impl.AddClass(c, x)
		checkConfig(t, "AddClass below a leaf", got, ok, expected, want.ok)
	}
	alone := changed(single(), func(c *impl.Config) { c.Default = 0 })
	got, ok := impl.AddClass(alone, leafClass(2, 1))
	checkConfig(t, "AddClass below the only class", got, ok, impl.Config{Name: "a", Classes: []impl.Class{innerClass(1, 0, 1), leafClass(2, 1)}}, true)
	got, ok = impl.AddClass(single(), leafClass(2, 1))
	checkConfig(t, "AddClass below the only class, which is the default", got, ok, impl.Config{}, false)
}

func TestAddClassAtTheLimits(t *testing.T) {
	deep := chain(40, 3, 90, 1, 700, 2, 41, 39)
	for _, c := range []struct {
		config impl.Config
		x      impl.Class
		ok     bool
	}{
		{star(1, 23), leafClass(24, 1), true},
		{star(1, 24), leafClass(25, 1), false},
		{star(24, 24), leafClass(999, 24), false},
		{deep, leafClass(800, 41), true},  // the eighth class on its way up
		{deep, leafClass(800, 39), false}, // the ninth one
		{chain(1, 2, 3, 4, 5, 6, 7), leafClass(8, 7), true},
		{star(1, 2), innerClass(3, 1, 29), false}, // no limit
		{star(1, 2), changedClass(leafClass(3, 1), func(x *impl.Class) { x.Rate, x.Ceil = 29, 29 }), true},
		{star(1, 2), changedClass(leafClass(3, 1), func(x *impl.Class) { x.Rate, x.Ceil = 30, 30 }), false},
	} {
		expected := configOf(append(slices.Clone(c.config.Classes), c.x)...)
		expected.Classes[slowFind(expected, c.x.Parent)].Limit = 0
		got, ok := impl.AddClass(c.config, c.x)
		checkConfig(t, "AddClass", got, ok, expected, c.ok)
	}
}

// changedClass returns a class after a change.
func changedClass(x impl.Class, change func(x *impl.Class)) impl.Class {
	change(&x)
	return x
}

func TestAddClassRefusesClassesThatDoNotFit(t *testing.T) {
	for _, x := range []impl.Class{
		{},
		leafClass(20, 50), leafClass(50, 50), leafClass(50, 0), leafClass(1, 50), // there is one
		leafClass(30, 0), leafClass(30, 30), leafClass(30, 31), leafClass(30, -1), leafClass(30, 1<<63-1),
		leafClass(0, 50), leafClass(-1, 50), leafClass(1000, 50), leafClass(-1<<63, 50), leafClass(1<<63-1, 50), leafClass(0, 0),
		leafClass(30, 10), leafClass(30, 90), // no spare rate
		changedClass(leafClass(30, 50), func(x *impl.Class) { x.Rate = 0 }),
		changedClass(leafClass(30, 50), func(x *impl.Class) { x.Rate = -1 << 63 }),
		changedClass(leafClass(30, 50), func(x *impl.Class) { x.Rate, x.Ceil = 10, 10 }),
		changedClass(leafClass(30, 50), func(x *impl.Class) { x.Ceil = 0 }),
		changedClass(leafClass(30, 50), func(x *impl.Class) { x.Ceil = 100001 }),
		changedClass(leafClass(30, 50), func(x *impl.Class) { x.Burst = 1499 }),
		changedClass(leafClass(30, 50), func(x *impl.Class) { x.Cburst = 1000001 }),
		changedClass(leafClass(30, 50), func(x *impl.Class) { x.Prio = 8 }),
		changedClass(leafClass(30, 50), func(x *impl.Class) { x.Limit = 0 }),
		changedClass(leafClass(30, 50), func(x *impl.Class) { x.Limit = 61 }),
	} {
		got, ok := impl.AddClass(crossed(), x)
		checkConfig(t, "AddClass", got, ok, impl.Config{}, false)
	}
	got, ok := impl.AddClass(crossed(), changedClass(leafClass(30, 50), func(x *impl.Class) { x.Rate, x.Ceil = 9, 100000 }))
	if len(got.Classes) != 9 || got.Classes[4].Rate != 9 || !ok {
		t.Error("AddClass of a class that fits", got, ok)
	}
}

func TestDropClass(t *testing.T) {
	free := changed(crossed(), func(c *impl.Config) { c.Default, c.Filters = 0, nil })
	for _, c := range []struct {
		config impl.Config
		id     int
		limits map[int]int // those of the classes that become leaves
		ok     bool
	}{
		{crossed(), 20, nil, true},
		{crossed(), 5, nil, false},                                                            // the default
		{crossed(), 1, nil, false},                                                            // a target
		{crossed(), 60, nil, false},                                                           // the target of the last filters
		{crossed(), 70, nil, false}, {crossed(), 90, nil, false}, {crossed(), 50, nil, false}, // no leaves
		{crossed(), 2, nil, false}, {crossed(), 0, nil, false}, {crossed(), -1, nil, false}, {crossed(), 1000, nil, false},
		{crossed(), 1<<63 - 1, nil, false}, {crossed(), -1 << 63, nil, false},
		{free, 1, map[int]int{90: 11}, true}, // the only child of class 90, which gets its limit
		{free, 5, nil, true},                 // its parent has another child
		{free, 60, nil, true},
		{single(), 1, nil, false},
		{changed(single(), func(c *impl.Config) { c.Default = 0 }), 1, nil, false}, // no class would be left
		{star(1, 2), 2, map[int]int{1: 1}, true},
		{star(2, 2), 1, map[int]int{2: 1}, true},
		{star(1, 3), 2, nil, true},
		{star(24, 24), 1, nil, true},
		{chain(40, 3, 90, 1, 700, 2, 41, 39), 39, map[int]int{41: 1}, true},
		{chain(40, 3, 90, 1, 700, 2, 41, 39), 41, nil, false},
	} {
		expected := cloned(c.config)
		if c.ok {
			expected.Classes = slices.DeleteFunc(expected.Classes, func(x impl.Class) bool { return x.Id == c.id })
		}
		for id, limit := range c.limits {
			expected.Classes[slowFind(expected, id)].Limit = limit
		}
		got, ok := impl.DropClass(c.config, c.id)
		checkConfig(t, "DropClass", got, ok, expected, c.ok)
	}
}

func TestSetLimit(t *testing.T) {
	for _, c := range []struct {
		id, limit int
		ok        bool
	}{
		{5, 1, true}, {5, 60, true}, {5, 7, true}, {5, 8, true}, {1, 60, true}, {60, 1, true}, {20, 2, true},
		{5, 0, false}, {5, 61, false}, {5, -1, false}, {5, 1<<63 - 1, false}, {5, -1 << 63, false},
		{50, 0, false}, {50, 1, false}, {10, 0, false}, {90, 5, false}, {70, 60, false}, // no leaves
		{0, 5, false}, {2, 5, false}, {-1, 5, false}, {1000, 5, false}, {1<<63 - 1, 5, false}, {-1 << 63, 5, false},
	} {
		expected := crossed()
		if c.ok {
			expected.Classes[slowFind(expected, c.id)].Limit = c.limit
		}
		got, ok := impl.SetLimit(crossed(), c.id, c.limit)
		checkConfig(t, "SetLimit", got, ok, expected, c.ok)
	}
}

func TestPromise4AnAddedClassCanBeDropped(t *testing.T) {
	added, refused, first := 0, 0, 0
	for n, c := range checkedConfigs() {
		dice := diceFor(n)
		for range 40 {
			x := leafClass(1+dice.IntN(999), c.Classes[dice.IntN(len(c.Classes))].Id)
			x.Rate, x.Limit = 1+dice.IntN(20), 1+dice.IntN(60)
			x.Ceil = x.Rate + dice.IntN(5)
			larger, ok := impl.AddClass(c, x)
			if !ok {
				refused++
				continue
			}
			added++
			if !slowIsLeaf(c, x.Parent) {
				checkDropped(t, larger, x, c)
				continue
			}
			first++
			checkDropped(t, larger, x, withClass(c, x.Parent, func(parent *impl.Class) { parent.Limit = x.Limit }))
		}
	}
	if added < 1000 || refused < 1000 || first < 100 {
		t.Error("few classes are added, refused, or below leaves:", added, refused, first)
	}
}

// checkDropped checks that a configuration has a class, and what is left without it.
func checkDropped(t *testing.T, larger impl.Config, x impl.Class, want impl.Config) {
	t.Helper()
	if i, ok := impl.FindClass(larger, x.Id); !ok || larger.Classes[i] != x {
		t.Fatalf("FindClass(%v, %d) = %d, %v", larger, x.Id, i, ok)
	}
	got, ok := impl.DropClass(larger, x.Id)
	checkConfig(t, "DropClass", got, ok, want, true)
}

func TestPromise4ADroppedClassCanBeAdded(t *testing.T) {
	dropped, left := 0, 0
	for _, c := range checkedConfigs() {
		for i, x := range c.Classes {
			used := x.Id == c.Default || slices.ContainsFunc(c.Filters, func(f impl.Filter) bool { return f.Target == x.Id })
			smaller, ok := impl.DropClass(c, x.Id)
			if want := len(c.Classes) > 1 && len(slowChildren(c, i)) == 0 && !used; ok != want {
				t.Errorf("DropClass(%v, %d) = %v, %v", c, x.Id, smaller, ok)
			}
			if !ok {
				continue
			}
			dropped++
			if slowIsLeaf(smaller, x.Parent) {
				left++
			}
			got, ok := impl.AddClass(smaller, x)
			checkConfig(t, "AddClass", got, ok, c, true)
		}
	}
	if dropped < 500 || left < 50 {
		t.Error("few classes are dropped, or below parents without other children:", dropped, left)
	}
}

func TestConfigsThatOnlyTheEditWouldMakeValidAreRefused(t *testing.T) {
	free := changed(crossed(), func(c *impl.Config) { c.Default, c.Filters = 0, nil })
	for _, c := range []struct {
		broken impl.Config
		x      impl.Class
	}{
		{impl.Config{Name: "a"}, leafClass(1, 0)},
		{withClass(free, 20, func(x *impl.Class) { x.Limit = 0 }), leafClass(30, 20)},
		{withClass(free, 20, func(x *impl.Class) { x.Limit = 61 }), leafClass(30, 20)},
		{withClass(free, 70, func(x *impl.Class) { x.Limit = 1 }), leafClass(30, 70)},
		{withClass(free, 20, func(x *impl.Class) { x.Parent = 30 }), innerClass(30, 50, 30)},
		{withClass(free, 50, func(x *impl.Class) { x.Parent = 200 }), innerClass(200, 0, 110)},
		{changed(free, func(c *impl.Config) { c.Default = 30 }), leafClass(30, 50)},
		{changed(free, func(c *impl.Config) { c.Filters = []impl.Filter{{Prio: 1, Target: 30}} }), leafClass(30, 50)},
	} {
		got, ok := impl.AddClass(c.broken, c.x)
		checkConfig(t, "AddClass", got, ok, impl.Config{}, false)
	}
	for _, broken := range []impl.Config{
		withClass(free, 20, func(x *impl.Class) { x.Rate, x.Ceil = 40, 40 }),
		withClass(free, 20, func(x *impl.Class) { x.Burst = 1 }),
		withClass(free, 20, func(x *impl.Class) { x.Parent = 21 }),
		withClass(free, 20, func(x *impl.Class) { x.Parent = 0 }),
		withClass(free, 20, func(x *impl.Class) { x.Limit = 0 }),
		withClass(free, 20, func(x *impl.Class) { x.Limit = 61 }),
	} {
		got, ok := impl.DropClass(broken, 20)
		checkConfig(t, "DropClass", got, ok, impl.Config{}, false)
		got, ok = impl.SetLimit(broken, 20, 5)
		checkConfig(t, "SetLimit", got, ok, impl.Config{}, false)
	}
	long := star(1, 25)
	got, ok := impl.DropClass(long, 25)
	checkConfig(t, "DropClass of one class too many", got, ok, impl.Config{}, false)
}
