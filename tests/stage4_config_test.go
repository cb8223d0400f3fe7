package tests

import (
	"regexp"
	"slices"
	"strings"
	"testing"

	"loop.example/g00838/impl"
)

// Promise 4: ways up lead to the top, rates of children fit, and a class that is added can be dropped.

var rightName = regexp.MustCompile(`\A[a-z]{1,8}\z`)

// slowConditions are the conditions of chapter 4, each of which may rely on those before it.
var slowConditions = []func(c impl.Config) bool{
	func(c impl.Config) bool { return rightName.MatchString(c.Name) && !slices.Contains(keys, c.Name) },
	func(c impl.Config) bool {
		ids := []int{0}
		for _, x := range c.Classes {
			ids = append(ids, x.Id)
		}
		return len(ids) >= 2 && len(ids) <= 25 && areIncreasing(append(ids, 1000))
	},
	func(c impl.Config) bool {
		tops := 0
		for _, x := range c.Classes {
			if x.Parent == 0 {
				tops++
			} else if slowFind(c, x.Parent) < 0 {
				return false
			}
		}
		return tops == 1
	},
	func(c impl.Config) bool {
		return allClasses(c, func(i int, x impl.Class) bool { return slowDepth(c, i, 8) <= 8 })
	},
	func(c impl.Config) bool {
		return allClasses(c, func(_ int, x impl.Class) bool { return 1 <= x.Rate && x.Rate <= x.Ceil && x.Ceil <= 100000 })
	},
	func(c impl.Config) bool {
		return allClasses(c, func(i int, x impl.Class) bool { return x.Rate >= slowRates(c, i) })
	},
	func(c impl.Config) bool {
		return allClasses(c, func(_ int, x impl.Class) bool {
			return min(x.Burst, x.Cburst) >= 1500 && max(x.Burst, x.Cburst) <= 1000000 && x.Prio >= 0 && x.Prio <= 7
		})
	},
	func(c impl.Config) bool {
		return allClasses(c, func(i int, x impl.Class) bool {
			if len(slowChildren(c, i)) > 0 {
				return x.Limit == 0
			}
			return x.Limit >= 1 && x.Limit <= 60
		})
	},
	func(c impl.Config) bool {
		prios := []int{0}
		for _, x := range c.Filters {
			prios = append(prios, x.Prio)
			if x.Field < 0 || x.Field > 3 || x.Mask>>16 != 0 || x.Value>>16 != 0 || x.Value|x.Mask != x.Mask || !slowIsLeaf(c, x.Target) {
				return false
			}
		}
		return len(prios) <= 17 && areIncreasing(append(prios, 100))
	},
	func(c impl.Config) bool { return c.Default == 0 || slowIsLeaf(c, c.Default) },
}

// firstBroken returns the first condition that does not hold; 0 if there is none.
func firstBroken(c impl.Config) int {
	return 1 + slices.IndexFunc(slowConditions, func(holds func(impl.Config) bool) bool { return !holds(c) })
}

func areIncreasing(l []int) bool {
	for i := range l[1:] {
		if l[i] >= l[i+1] {
			return false
		}
	}
	return true
}

func allClasses(c impl.Config, holds func(i int, x impl.Class) bool) bool {
	for i, x := range c.Classes {
		if !holds(i, x) {
			return false
		}
	}
	return true
}

func slowFind(c impl.Config, id int) int {
	return slices.IndexFunc(c.Classes, func(x impl.Class) bool { return x.Id == id })
}

// slowDepth returns the number of classes on the way up, or one more than the most that it may be.
func slowDepth(c impl.Config, i int, most int) int {
	if c.Classes[i].Parent == 0 || most == 0 {
		return 1
	}
	return 1 + slowDepth(c, slowFind(c, c.Classes[i].Parent), most-1)
}

func slowChildren(c impl.Config, i int) []int {
	var l []int
	for k, x := range c.Classes {
		if x.Parent == c.Classes[i].Id {
			l = append(l, k)
		}
	}
	return l
}

func slowRates(c impl.Config, i int) int {
	sum := 0
	for _, k := range slowChildren(c, i) {
		sum += c.Classes[k].Rate
	}
	return sum
}

func slowIsLeaf(c impl.Config, id int) bool {
	i := slowFind(c, id)
	return i >= 0 && len(slowChildren(c, i)) == 0
}

// checkConditions checks that configurations are valid, or that they are not and break a condition before any other one.
func checkConditions(t *testing.T, broken int, l ...impl.Config) {
	t.Helper()
	for _, c := range l {
		if got := firstBroken(c); got != broken {
			t.Fatalf("%v breaks condition %d", c, got)
		}
		if got := impl.IsConfig(c); got != (broken == 0) {
			t.Errorf("IsConfig(%.200v) = %v", c, got)
		}
	}
}

func TestNamedConfigsAreValid(t *testing.T) {
	checkConditions(t, 0, namedConfigs()...)
}

func TestCondition1Names(t *testing.T) {
	named := func(s string) impl.Config {
		return changed(crossed(), func(c *impl.Config) { c.Name = s })
	}
	for _, s := range []string{"a", "z", "eth", "abcdefgh", "zzzzzzzz", "ratex", "xrate", "rat", "defaults", "name"} {
		checkConditions(t, 0, named(s))
	}
	for _, s := range []string{
		"", "abcdefghi", "A", "aB", "a1", "1", "a b", " a", "a ", "a\n", "\na", "a\x00", "`", "{", "a_", "a-b", "\u0161", "a\u00e9",
		"\xff", strings.Repeat("a", 12), strings.Repeat("a", 100000),
	} {
		checkConditions(t, 1, named(s))
	}
	for _, s := range keys {
		checkConditions(t, 1, named(s))
	}
}

func TestCondition2Ids(t *testing.T) {
	c := star(1, 2)
	withIds := func(top, leaf int) impl.Config {
		return impl.Config{Name: "a", Classes: []impl.Class{innerClass(top, 0, 30), leafClass(leaf, top)}}
	}
	checkConditions(t, 0, withIds(1, 2), withIds(1, 999), withIds(998, 999), star(1, 24), star(24, 24), star(13, 24))
	checkConditions(t, 2,
		withIds(0, 1), withIds(-1, 1), withIds(1, 1000), withIds(999, 1000), withIds(2, 1), withIds(1, 1), withIds(1<<63-1, -1<<63),
		withIds(-1<<63, 1<<63-1), star(1, 25), star(25, 25), star(1, 100000),
		impl.Config{Name: "a"},
		impl.Config{Name: "a", Classes: []impl.Class{}},
		impl.Config{Name: "a", Classes: c.Classes[:0]},
		changed(crossed(), func(c *impl.Config) { c.Classes[2], c.Classes[3] = c.Classes[3], c.Classes[2] }),
		changed(crossed(), func(c *impl.Config) { c.Classes[7] = c.Classes[6] }),
		changed(single(), func(c *impl.Config) { c.Classes = append(c.Classes, c.Classes[0]) }),
	)
}

func TestCondition3Tops(t *testing.T) {
	c := crossed()
	under := func(id, parent int) impl.Config {
		return withClass(c, id, func(x *impl.Class) { x.Parent = parent })
	}
	checkConditions(t, 0, c, under(20, 50))
	checkConditions(t, 3,
		under(20, 0), under(70, 0), under(1, 0), // two tops
		under(20, 2), under(20, 1000), under(20, -50), under(20, -1<<63), under(20, 1<<63-1), under(50, 51), // no such class
		under(50, 1), under(50, 50), under(50, 20), // no top
		withClass(single(), 1, func(x *impl.Class) { x.Parent = 1 }),
	)
}

func TestCondition4Depths(t *testing.T) {
	c := crossed()
	under := func(id, parent int) impl.Config {
		return withClass(c, id, func(x *impl.Class) { x.Parent = parent })
	}
	checkConditions(t, 0,
		chain(1, 2, 3, 4, 5, 6, 7, 8), chain(8, 7, 6, 5, 4, 3, 2, 1), chain(4, 999, 2, 8, 1, 7, 3, 6), chain(1, 2, 3, 4, 5, 6, 7))
	checkConditions(t, 4,
		chain(1, 2, 3, 4, 5, 6, 7, 8, 9), chain(9, 8, 7, 6, 5, 4, 3, 2, 1), chain(5, 999, 2, 9, 1, 7, 3, 6, 4),
		chain(1, 2, 3, 4, 5, 6, 7, 8, 9, 10), chain(24, 1, 23, 2, 22, 3, 21, 4, 20, 5, 19, 6, 18, 7, 17, 8, 16, 9, 15, 10, 14, 11, 13, 12),
		under(20, 20), under(5, 5), under(70, 70), // a ring of one class beside the top
		under(10, 90), under(10, 1), under(90, 1), under(70, 60), // rings of two and three classes
	)
}

func TestConditions5And7Bounds(t *testing.T) {
	for _, c := range []struct {
		condition   int
		change      func(x *impl.Class, n int)
		least, most int
	}{
		{5, func(x *impl.Class, n int) { x.Rate, x.Ceil = n, max(n, 1) }, 1, 100000},
		{5, func(x *impl.Class, n int) { x.Ceil = n }, 1, 100000},
		{5, func(x *impl.Class, n int) { x.Rate, x.Ceil = 777, n }, 777, 100000},
		{5, func(x *impl.Class, n int) { x.Rate, x.Ceil = 100000, n }, 100000, 100000},
		{7, func(x *impl.Class, n int) { x.Burst = n }, 1500, 1000000},
		{7, func(x *impl.Class, n int) { x.Cburst = n }, 1500, 1000000},
		{7, func(x *impl.Class, n int) { x.Prio = n }, 0, 7},
		{8, func(x *impl.Class, n int) { x.Limit = n }, 1, 60},
	} {
		for _, n := range append([]int{c.least - 1, c.least, c.least + 1, c.most - 1, c.most, c.most + 1}, extremes...) {
			broken := c.condition
			if c.least <= n && n <= c.most {
				broken = 0
			}
			checkConditions(t, broken, withClass(single(), 1, func(x *impl.Class) { c.change(x, n) }))
		}
	}
}

func TestCondition6Rates(t *testing.T) {
	c := crossed()
	rated := func(id, rate int) impl.Config {
		return withClass(c, id, func(x *impl.Class) { x.Rate, x.Ceil = rate, rate })
	}
	checkConditions(t, 0, rated(20, 39), rated(5, 16), rated(60, 26), rated(50, 101), rated(70, 40), rated(70, 50), rated(90, 30), rated(1, 29), rated(50, 100000))
	checkConditions(t, 6, rated(20, 40), rated(5, 17), rated(60, 27), rated(50, 100), rated(70, 39), rated(70, 51), rated(90, 31), rated(90, 29), rated(1, 31), rated(20, 100000), rated(10, 29))
	full := star(1, 24)
	for i := range full.Classes {
		full.Classes[i].Ceil = 100000
	}
	checkConditions(t, 0, withClass(full, 1, func(x *impl.Class) { x.Rate = 23 }))
	checkConditions(t, 6, withClass(full, 1, func(x *impl.Class) { x.Rate = 22 }))
	// Ceilings of children may add up to more.
	checkConditions(t, 0, withClass(c, 20, func(x *impl.Class) { x.Ceil = 100000 }))
}

func TestCondition8Limits(t *testing.T) {
	c := crossed()
	limited := func(id, limit int) impl.Config {
		return withClass(c, id, func(x *impl.Class) { x.Limit = limit })
	}
	for _, id := range []int{1, 5, 20, 60} {
		checkConditions(t, 0, limited(id, 1), limited(id, 60))
		checkConditions(t, 8, limited(id, 0), limited(id, 61), limited(id, -1), limited(id, 1<<63-1))
	}
	for _, id := range []int{10, 50, 70, 90} {
		checkConditions(t, 8, limited(id, 1), limited(id, 60), limited(id, -1), limited(id, -1<<63))
	}
}

func TestCondition9Filters(t *testing.T) {
	c := crossed()
	filter := func(prio, field, mask, value, target int) impl.Config {
		return changed(c, func(c *impl.Config) {
			c.Filters = []impl.Filter{{Prio: prio, Field: field, Mask: mask, Value: value, Target: target}}
		})
	}
	prios := func(l ...int) impl.Config {
		return changed(c, func(c *impl.Config) {
			c.Filters = nil
			for _, prio := range l {
				c.Filters = append(c.Filters, impl.Filter{Prio: prio, Target: 20})
			}
		})
	}
	checkConditions(t, 0,
		filter(1, 0, 0, 0, 1), filter(99, 3, 65535, 65535, 60), filter(5, 1, 65535, 0, 5), filter(5, 2, 0x0ff0, 0x0a50, 20),
		filter(5, 2, 32768, 32768, 20), filter(5, 2, 1, 1, 20),
		prios(), prios(1, 99), prios(98, 99), prios(1, 2, 3, 4, 5, 6, 7, 8, 9, 10, 11, 12, 13, 14, 15, 16), crowded(),
	)
	checkConditions(t, 9,
		filter(0, 0, 0, 0, 1), filter(100, 0, 0, 0, 1), filter(-1, 0, 0, 0, 1),
		filter(5, -1, 0, 0, 1), filter(5, 4, 0, 0, 1),
		filter(5, 0, -1, 0, 1), filter(5, 0, 65536, 0, 1), filter(5, 0, 65536, 65536, 1), filter(5, 0, -1, -1, 1),
		filter(5, 0, 65535, -1, 1), filter(5, 0, 65535, 65536, 1), filter(5, 0, 0, 1, 1), filter(5, 0, 2, 1, 1), filter(5, 0, 2, 3, 1),
		filter(5, 0, 0x0ff0, 0x1a50, 1), filter(5, 0, 65534, 65535, 1), filter(5, 0, 32767, 32768, 1),
		filter(5, 0, 0, 0, 0), filter(5, 0, 0, 0, 2), filter(5, 0, 0, 0, 50), filter(5, 0, 0, 0, 10), filter(5, 0, 0, 0, 90),
		filter(5, 0, 0, 0, -1), filter(5, 0, 0, 0, 1000), filter(5, 0, 0, 0, 1<<63-1),
		prios(2, 1), prios(1, 1), prios(1, 3, 2), prios(1, 2, 2), prios(-1, 1), prios(99, 100), prios(1<<63-1, -1<<63), prios(-1<<63, 1<<63-1),
		prios(1, 2, 3, 4, 5, 6, 7, 8, 9, 10, 11, 12, 13, 14, 15, 16, 17),
	)
}

func TestCondition10Defaults(t *testing.T) {
	to := func(c impl.Config, id int) impl.Config {
		return changed(c, func(c *impl.Config) { c.Default = id })
	}
	checkConditions(t, 0, to(crossed(), 0), to(crossed(), 1), to(crossed(), 20), to(crossed(), 60), to(single(), 0), to(single(), 1))
	for _, id := range []int{-1, 2, 10, 50, 70, 90, 999, 1000, -1 << 63, 1<<63 - 1} {
		checkConditions(t, 10, to(crossed(), id))
	}
	checkConditions(t, 10, to(star(1, 2), 1), to(single(), 2))
}

// changedInOneNumber returns configurations that differ from one in one of its numbers.
func changedInOneNumber(c impl.Config) []impl.Config {
	var l []impl.Config
	add := func(number func(c *impl.Config) *int) {
		was := *number(&c)
		for _, n := range append([]int{was + 1, was - 1, 10 * was, c.Classes[0].Id, c.Classes[len(c.Classes)/2].Id}, extremes...) {
			l = append(l, changed(c, func(c *impl.Config) { *number(c) = n }))
		}
	}
	add(func(c *impl.Config) *int { return &c.Default })
	for i := range c.Classes {
		for field := range 8 {
			add(func(c *impl.Config) *int {
				x := &c.Classes[i]
				return []*int{&x.Id, &x.Parent, &x.Rate, &x.Ceil, &x.Burst, &x.Cburst, &x.Prio, &x.Limit}[field]
			})
		}
	}
	for i := range c.Filters {
		for field := range 5 {
			add(func(c *impl.Config) *int {
				x := &c.Filters[i]
				return []*int{&x.Prio, &x.Field, &x.Mask, &x.Value, &x.Target}[field]
			})
		}
	}
	return l
}

func TestConfigsAreValidExactlyIfTheyMeetTheConditions(t *testing.T) {
	broken := make([]int, 11)
	configs := namedConfigs()
	for seed := range 25 {
		configs = append(configs, randomConfig(seed))
	}
	for _, c := range configs {
		checkConditions(t, 0, c)
		for _, d := range changedInOneNumber(c) {
			first := firstBroken(d)
			checkConditions(t, first, d)
			broken[first]++
		}
	}
	// Only the name has no numbers.
	if broken[1] != 0 || slices.Contains(broken[2:], 0) || broken[0] == 0 {
		t.Errorf("configurations that break each condition first: %v", broken)
	}
}

func TestFindClass(t *testing.T) {
	for _, c := range []struct {
		id, i int
		ok    bool
	}{
		{1, 0, true}, {5, 1, true}, {10, 2, true}, {20, 3, true}, {50, 4, true}, {60, 5, true}, {70, 6, true}, {90, 7, true},
		{0, 0, false}, {-1, 0, false}, {2, 0, false}, {49, 0, false}, {91, 0, false}, {999, 0, false}, {1000, 0, false},
		{1<<63 - 1, 0, false}, {-1 << 63, 0, false},
	} {
		if i, ok := impl.FindClass(crossed(), c.id); i != c.i || ok != c.ok {
			t.Errorf("FindClass(%d) = %d, %v", c.id, i, ok)
		}
	}
}

func TestTopOf(t *testing.T) {
	for _, c := range []struct {
		config impl.Config
		i      int
	}{
		{crossed(), 4}, {single(), 0}, {star(1, 2), 0}, {star(2, 2), 1}, {star(24, 24), 23}, {crowded(), 11},
		{chain(999, 8, 7, 6, 5, 4, 3, 2), 7}, {chain(1, 2, 3), 0},
	} {
		if i, ok := impl.TopOf(c.config); i != c.i || !ok {
			t.Errorf("TopOf(%v) = %d, %v", c.config, i, ok)
		}
	}
}

func TestWalksOfCrossedIds(t *testing.T) {
	c := crossed()
	if l, ok := impl.LeavesOf(c); !slices.Equal(l, []int{0, 1, 3, 5}) || !ok {
		t.Error("leaves", l, ok)
	}
	for i, want := range []struct {
		children, way []int
		spare         int
	}{
		{nil, []int{0, 7, 2, 4}, 30},
		{nil, []int{1, 6, 4}, 15},
		{[]int{7}, []int{2, 4}, 0},
		{nil, []int{3, 4}, 30},
		{[]int{2, 3, 6}, []int{4}, 9},
		{nil, []int{5, 6, 4}, 25},
		{[]int{1, 5}, []int{6, 4}, 1},
		{[]int{0}, []int{7, 2, 4}, 0},
	} {
		if l, ok := impl.ChildClasses(c, i); !slices.Equal(l, want.children) || !ok {
			t.Error("children", i, l, ok)
		}
		if l, ok := impl.WayUp(c, i); !slices.Equal(l, want.way) || !ok {
			t.Error("way", i, l, ok)
		}
		if n, ok := impl.SpareRate(c, i); n != want.spare || !ok {
			t.Error("spare", i, n, ok)
		}
		for k := range c.Classes {
			if is, ok := impl.IsBelow(c, i, k); is != slices.Contains(want.way, k) || !ok {
				t.Error("below", i, k, is, ok)
			}
		}
	}
}

func TestWalksOfOtherConfigs(t *testing.T) {
	if l, ok := impl.LeavesOf(single()); !slices.Equal(l, []int{0}) || !ok {
		t.Error("leaves of one class", l, ok)
	}
	if l, ok := impl.WayUp(single(), 0); !slices.Equal(l, []int{0}) || !ok {
		t.Error("way of one class", l, ok)
	}
	if l, ok := impl.ChildClasses(single(), 0); len(l) != 0 || !ok {
		t.Error("children of one class", l, ok)
	}
	if l, ok := impl.WayUp(chain(40, 3, 90, 1, 700, 2, 41, 39), 3); !slices.Equal(l, []int{3, 5, 1, 7, 0, 6, 2, 4}) || !ok {
		t.Error("way of the greatest depth", l, ok)
	}
	if l, ok := impl.ChildClasses(star(24, 24), 23); len(l) != 23 || l[0] != 0 || l[22] != 22 || !ok {
		t.Error("many children", l, ok)
	}
	if l, ok := impl.LeavesOf(star(1, 24)); len(l) != 23 || l[0] != 1 || l[22] != 23 || !ok {
		t.Error("many leaves", l, ok)
	}
	tight := star(1, 24)
	tight.Classes[0].Rate = 23
	if n, ok := impl.SpareRate(tight, 0); n != 0 || !ok {
		t.Error("no spare rate", n, ok)
	}
}

// checkedConfigs are the valid configurations with which promise 4 is checked.
func checkedConfigs() []impl.Config {
	configs := namedConfigs()
	for seed := range 300 {
		configs = append(configs, randomConfig(seed))
	}
	return configs
}

func TestPromise4WaysUpLeadToTheTop(t *testing.T) {
	for _, c := range checkedConfigs() {
		top, okTop := impl.TopOf(c)
		if !okTop || c.Classes[top].Parent != 0 {
			t.Fatalf("TopOf(%v) = %d, %v", c, top, okTop)
		}
		for i := range c.Classes {
			way, ok := impl.WayUp(c, i)
			if !ok || len(way) < 1 || len(way) > 8 || way[0] != i || way[len(way)-1] != top {
				t.Fatalf("WayUp(%v, %d) = %v, %v", c, i, way, ok)
			}
			for n, k := range way[1:] {
				if c.Classes[way[n]].Parent != c.Classes[k].Id {
					t.Errorf("WayUp(%v, %d) = %v", c, i, way)
				}
			}
			for k := range c.Classes {
				if is, ok := impl.IsBelow(c, i, k); is != slices.Contains(way, k) || !ok {
					t.Errorf("IsBelow(%v, %d, %d) = %v, %v", c, i, k, is, ok)
				}
			}
		}
	}
}

func TestPromise4RatesOfChildrenFit(t *testing.T) {
	for _, c := range checkedConfigs() {
		var leaves []int
		for i, x := range c.Classes {
			children, ok := impl.ChildClasses(c, i)
			if !ok || !slices.Equal(children, slowChildren(c, i)) {
				t.Fatalf("ChildClasses(%v, %d) = %v, %v", c, i, children, ok)
			}
			if spare, ok := impl.SpareRate(c, i); spare < 0 || spare != x.Rate-slowRates(c, i) || !ok {
				t.Errorf("SpareRate(%v, %d) = %d, %v", c, i, spare, ok)
			}
			if len(children) == 0 {
				leaves = append(leaves, i)
			}
			if k, ok := impl.FindClass(c, x.Id); k != i || !ok {
				t.Errorf("FindClass(%v, %d) = %d, %v", c, x.Id, k, ok)
			}
		}
		if l, ok := impl.LeavesOf(c); !slices.Equal(l, leaves) || !ok {
			t.Errorf("LeavesOf(%v) = %v, %v", c, l, ok)
		}
	}
}

func TestNothingIsFoundInInvalidConfigs(t *testing.T) {
	for _, c := range brokenConfigs() {
		if impl.IsConfig(c) || firstBroken(c) == 0 {
			t.Fatalf("%.200v is valid", c)
		}
		checkNoAnswers(t, c, 0, 20)
	}
}

func TestIndicesOfNoClassesAreRefused(t *testing.T) {
	for _, c := range namedConfigs() {
		for _, i := range append([]int{-1, len(c.Classes), len(c.Classes) + 1}, extremes...) {
			if i >= 0 && i < len(c.Classes) {
				continue
			}
			checkNoWalks(t, c, i)
			if is, ok := impl.IsBelow(c, 0, i); is || ok {
				t.Errorf("IsBelow(%v, 0, %d) = %v, %v", c, i, is, ok)
			}
		}
	}
}

// checkNoAnswers checks that all functions with a configuration refuse it.
func checkNoAnswers(t *testing.T, c impl.Config, i, id int) {
	t.Helper()
	checkNoWalks(t, c, i)
	if i, ok := impl.FindClass(c, id); i != 0 || ok {
		t.Errorf("FindClass(%.200v, %d) = %d, %v", c, id, i, ok)
	}
	if i, ok := impl.TopOf(c); i != 0 || ok {
		t.Errorf("TopOf(%.200v) = %d, %v", c, i, ok)
	}
	if l, ok := impl.LeavesOf(c); len(l) != 0 || ok {
		t.Errorf("LeavesOf(%.200v) = %v, %v", c, l, ok)
	}
	if d, ok := impl.AddClass(c, leafClass(500, 50)); !isZeroConfig(d) || ok {
		t.Errorf("AddClass(%.200v) = %v, %v", c, d, ok)
	}
	if d, ok := impl.DropClass(c, id); !isZeroConfig(d) || ok {
		t.Errorf("DropClass(%.200v, %d) = %v, %v", c, id, d, ok)
	}
	if d, ok := impl.SetLimit(c, id, 2); !isZeroConfig(d) || ok {
		t.Errorf("SetLimit(%.200v, %d, 2) = %v, %v", c, id, d, ok)
	}
}

// checkNoWalks checks that all functions with a class refuse it.
func checkNoWalks(t *testing.T, c impl.Config, i int) {
	t.Helper()
	if l, ok := impl.ChildClasses(c, i); len(l) != 0 || ok {
		t.Errorf("ChildClasses(%.200v, %d) = %v, %v", c, i, l, ok)
	}
	if l, ok := impl.WayUp(c, i); len(l) != 0 || ok {
		t.Errorf("WayUp(%.200v, %d) = %v, %v", c, i, l, ok)
	}
	if n, ok := impl.SpareRate(c, i); n != 0 || ok {
		t.Errorf("SpareRate(%.200v, %d) = %d, %v", c, i, n, ok)
	}
	if is, ok := impl.IsBelow(c, i, 0); is || ok {
		t.Errorf("IsBelow(%.200v, %d, 0) = %v, %v", c, i, is, ok)
	}
}
