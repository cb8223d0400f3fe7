package tests

import (
	"fmt"
	"slices"
	"testing"

	"loop.example/g00838/impl"
)

// Promise 8 for the configurations that chapter 8 makes.

// chained returns the class of a witness of depth.
func chained(id, rate, limit int) impl.Class {
	return impl.Class{Id: id, Parent: id - 1, Rate: rate, Ceil: rate, Burst: 1500, Cburst: 1500, Limit: limit}
}

func TestWitnessOf(t *testing.T) {
	for depth, classes := range map[int][]impl.Class{
		1: {chained(1, 100, 1)},
		2: {chained(1, 200, 0), chained(2, 100, 1)},
		3: {chained(1, 300, 0), chained(2, 200, 0), chained(3, 100, 1)},
		8: {
			chained(1, 800, 0), chained(2, 700, 0), chained(3, 600, 0), chained(4, 500, 0),
			chained(5, 400, 0), chained(6, 300, 0), chained(7, 200, 0), chained(8, 100, 1),
		},
	} {
		got, ok := impl.WitnessOf(depth)
		checkConfig(t, fmt.Sprint("WitnessOf ", depth), got, ok, impl.Config{Name: "deep", Classes: classes, Default: depth}, true)
	}
}

func TestPromise8WitnessesAreAsDeepAsTold(t *testing.T) {
	for depth := 1; depth <= 8; depth++ {
		c, ok := impl.WitnessOf(depth)
		if !ok || len(c.Classes) != depth || len(c.Filters) != 0 || c.Default != depth {
			t.Fatalf("WitnessOf(%d) = %v, %v", depth, c, ok)
		}
		checkBroken(t, c)
		way, ok := impl.WayUp(c, depth-1)
		want := upFrom(0, depth)
		slices.Reverse(want)
		if !slices.Equal(way, want) || !ok {
			t.Errorf("the way up in WitnessOf(%d) is %v, %v", depth, way, ok)
		}
		for i := range depth {
			if n, ok := impl.SpareRate(c, i); n != 100 || !ok {
				t.Errorf("the class %d of WitnessOf(%d) has %d to spare", i+1, depth, n)
			}
		}
		// One class more is too deep exactly below the deepest witness.
		c.Default = 0
		_, ok = impl.AddClass(c, leafClass(depth+1, depth))
		if ok != (depth < 8) {
			t.Errorf("AddClass to WitnessOf(%d) returns %v", depth, ok)
		}
	}
	for _, depth := range append([]int{9, 10, 40}, extremes...) {
		if got, ok := impl.WitnessOf(depth); depth < 1 || depth > 8 {
			checkConfig(t, fmt.Sprint("WitnessOf ", depth), got, ok, impl.Config{}, false)
		}
	}
}

func TestWideWitness(t *testing.T) {
	leaf := func(id int) impl.Class {
		return impl.Class{Id: id, Parent: 1, Rate: 10, Ceil: 10, Burst: 1500, Cburst: 1500, Limit: 1}
	}
	to := func(id int) impl.Filter {
		return impl.Filter{Prio: id - 1, Field: 2, Mask: 65535, Value: id, Target: id}
	}
	for n, want := range map[int]impl.Config{
		2: {Classes: []impl.Class{innerClass(1, 0, 10), leaf(2)}, Filters: []impl.Filter{to(2)}},
		4: {
			Classes: []impl.Class{innerClass(1, 0, 30), leaf(2), leaf(3), leaf(4)},
			Filters: []impl.Filter{to(2), to(3), to(4)},
		},
	} {
		want.Name = "wide"
		got, ok := impl.WideWitness(n)
		checkConfig(t, fmt.Sprint("WideWitness ", n), got, ok, want, true)
	}
}

func TestPromise8WideWitnessesAreAsWideAsTold(t *testing.T) {
	for n := 2; n <= 24; n++ {
		c, ok := impl.WideWitness(n)
		if !ok || c.Name != "wide" || len(c.Classes) != n || len(c.Filters) != min(n-1, 16) || c.Default != 0 {
			t.Fatalf("WideWitness(%d) = %v, %v", n, c, ok)
		}
		checkBroken(t, c)
		children, _ := impl.ChildClasses(c, 0)
		if spare, _ := impl.SpareRate(c, 0); !slices.Equal(children, upFrom(1, n)) || spare != 0 || c.Classes[0] != innerClass(1, 0, 10*(n-1)) {
			t.Errorf("the first class of WideWitness(%d) is %v, above %v", n, c.Classes[0], children)
		}
		for i, x := range c.Classes[1:] {
			if want := (impl.Class{Id: i + 2, Parent: 1, Rate: 10, Ceil: 10, Burst: 1500, Cburst: 1500, Limit: 1}); x != want {
				t.Errorf("WideWitness(%d) has the class %v", n, x)
			}
		}
		for i, x := range c.Filters {
			if want := (impl.Filter{Prio: i + 1, Field: 2, Mask: 65535, Value: i + 2, Target: i + 2}); x != want {
				t.Errorf("WideWitness(%d) has the filter %v", n, x)
			}
		}
		_, ok = impl.AddClass(withClass(c, 1, func(x *impl.Class) { x.Rate, x.Ceil = 300, 300 }), leafClass(n+1, 1))
		if ok != (n < 24) {
			t.Errorf("AddClass to WideWitness(%d) returns %v", n, ok)
		}
	}
	for _, n := range append([]int{24, 25, 26, 40, 41}, extremes...) {
		if got, ok := impl.WideWitness(n); n < 2 || n > 24 {
			checkConfig(t, fmt.Sprint("WideWitness ", n), got, ok, impl.Config{}, false)
		}
	}
}

// slowRaised returns a configuration with raised Rates, if all conditions but those of Rates hold, and each Rate is one that may stay or be raised.
func slowRaised(c impl.Config) (impl.Config, bool) {
	for _, k := range []int{1, 2, 3, 4, 7, 8, 9, 10} {
		if !slowHolds(c, k) {
			return impl.Config{}, false
		}
	}
	raised := cloned(c)
	for i := range c.Classes {
		rate := slowRaisedRate(c, i)
		raised.Classes[i].Rate, raised.Classes[i].Ceil = rate, max(rate, c.Classes[i].Ceil)
		if rate < 1 || max(rate, c.Classes[i].Ceil) > 100000 {
			return impl.Config{}, false
		}
	}
	return raised, true
}

// slowRaisedRate returns a Rate of which 1000000 and 0 stand for all that are too great or too small, whatever their children have.
func slowRaisedRate(c impl.Config, i int) int {
	rate, sum := c.Classes[i].Rate, 0
	for _, k := range slowChildren(c, i) {
		sum += slowRaisedRate(c, k)
	}
	return min(max(rate, sum, 0), 1000000)
}

func checkRaised(t *testing.T, c impl.Config) {
	t.Helper()
	want, ok := slowRaised(c)
	got, gotOk := impl.RaiseRates(c)
	checkConfig(t, "RaiseRates of "+briefly(c), got, gotOk, want, ok)
}

// lowered returns a configuration with other Rates of classes with children, and other Ceils, most of which can be raised.
func lowered(c impl.Config, seed int) impl.Config {
	dice := diceFor(seed)
	low := func() int { return []int{0, 1, 2, 5, 30, -1, -1 << 31, -1 << 63, -1<<63 + 1}[dice.IntN(9)] }
	c = cloned(c)
	for i := range c.Classes {
		if x := &c.Classes[i]; dice.IntN(3) > 0 {
			x.Ceil = low()
			if x.Limit == 0 {
				x.Rate = low()
			}
		}
	}
	return c
}

func TestRaiseRatesOfManyTrees(t *testing.T) {
	count := 0
	for seed := range 500 {
		c := lowered(randomConfig(seed), seed)
		checkRaised(t, c)
		raised, ok := impl.RaiseRates(c)
		if !ok {
			continue
		}
		count++
		checkBroken(t, raised)
		again, ok := impl.RaiseRates(raised)
		checkConfig(t, "RaiseRates of raised Rates", again, ok, raised, true)
		checkLeastRaised(t, c, raised)
	}
	if count < 400 {
		t.Errorf("only %d configurations can be raised", count)
	}
}

// checkLeastRaised checks that no Rate or Ceil was raised by more than it must be, and that nothing else was changed.
func checkLeastRaised(t *testing.T, c, raised impl.Config) {
	t.Helper()
	back := raised
	for i, x := range c.Classes {
		y := raised.Classes[i]
		if y.Rate < x.Rate || y.Rate > x.Rate && y.Rate != slowRates(raised, i) || y.Ceil != max(x.Ceil, y.Rate) {
			t.Errorf("the class %v is raised to %v in %s", x, y, briefly(raised))
		}
		back = withClass(back, x.Id, func(z *impl.Class) { z.Rate, z.Ceil = x.Rate, x.Ceil })
	}
	if !sameConfig(back, c) {
		t.Errorf("RaiseRates changes more than Rates and Ceils: %s, %s", briefly(c), briefly(raised))
	}
}

func TestRaiseRatesOfValidConfigsChangesNothing(t *testing.T) {
	for _, c := range checkedConfigs() {
		got, ok := impl.RaiseRates(c)
		checkConfig(t, "RaiseRates", got, ok, c, true)
	}
}

func TestRaiseRatesOfAnyConfigs(t *testing.T) {
	for _, c := range rawConfigs() {
		checkRaised(t, c)
	}
	for _, c := range []impl.Config{single(), crossed(), crowded()} {
		for _, d := range changedInOneNumber(c) {
			checkRaised(t, d)
		}
	}
}

func TestRaiseRatesThroughSeveralClasses(t *testing.T) {
	// The Ids go up, down, and in neither way along the ways up.
	for _, c := range []impl.Config{
		chain(1, 2, 3, 4, 5, 6, 7, 8), chain(9, 8, 7, 6, 5, 4, 3, 2), chain(40, 3, 90, 1, 700, 2, 41, 39),
	} {
		want := cloned(c)
		for i := range c.Classes {
			// The leaf is the class with a Limit.
			x, y := &c.Classes[i], &want.Classes[i]
			x.Rate, x.Ceil = 7*x.Limit, -5
			y.Rate, y.Ceil = 7, 7
		}
		got, ok := impl.RaiseRates(c)
		checkConfig(t, "RaiseRates of a chain", got, ok, want, true)
	}
	c := crossed()
	rates := func(rates ...int) impl.Config {
		return changed(c, func(c *impl.Config) {
			for i := range c.Classes {
				c.Classes[i].Rate, c.Classes[i].Ceil = rates[2*i], rates[2*i+1]
			}
		})
	}
	for _, x := range []struct {
		name         string
		config, want impl.Config
		ok           bool
	}{
		{
			// The classes are 1, 5, 10, 20, 50, 60, 70, 90.
			"a tree", rates(30, 40, 15, 1, 2, 29, 30, 30, 100, 101, 25, 25, 41, 500, 0, 31),
			rates(30, 40, 15, 15, 30, 30, 30, 30, 101, 101, 25, 25, 41, 500, 30, 31), true,
		},
		{
			"sums that are exact", rates(30, 30, 15, 15, 30, 30, 30, 30, 101, 101, 25, 25, 41, 41, 30, 30),
			rates(30, 30, 15, 15, 30, 30, 30, 30, 101, 101, 25, 25, 41, 41, 30, 30), true,
		},
		{
			"sums of one more", rates(30, 30, 16, 16, 30, 30, 30, 30, 101, 101, 26, 26, 41, 41, 30, 30),
			rates(30, 30, 16, 16, 30, 30, 30, 30, 102, 102, 26, 26, 42, 42, 30, 30), true,
		},
		{
			"the least numbers", rates(1, -1<<63, 1, -1<<63, -1<<63, -1<<63, 1, -1<<63, -1<<63, -1<<63, 1, -1<<63, -1<<63, -1<<63, -1<<63, -1<<63),
			rates(1, 1, 1, 1, 1, 1, 1, 1, 4, 4, 1, 1, 2, 2, 1, 1), true,
		},
		{
			"the greatest sum", rates(30000, 0, 15000, 0, 0, 0, 30000, 0, 0, 0, 25000, 0, 0, 0, 0, 100000),
			rates(30000, 30000, 15000, 15000, 30000, 30000, 30000, 30000, 100000, 100000, 25000, 25000, 40000, 40000, 30000, 100000), true,
		},
		{"a sum of one more than MaxRate", rates(30000, 0, 15001, 0, 0, 0, 30000, 0, 0, 0, 25000, 0, 0, 0, 0, 100000), impl.Config{}, false},
		{"a Ceil above MaxRate", rates(30, 100001, 15, 15, 30, 30, 30, 30, 101, 101, 25, 25, 41, 41, 30, 30), impl.Config{}, false},
		{"a leaf without Rate", rates(0, 30, 15, 15, 30, 30, 30, 30, 101, 101, 25, 25, 41, 41, 30, 30), impl.Config{}, false},
		{"a sum that wraps around", rates(1<<63-1, 5, 1<<63-1, 5, 5, 5, 4, 5, 5, 5, 1<<63-1, 5, 5, 5, 5, 5), impl.Config{}, false},
		{"a sum that wraps around below", rates(-1<<63, 5, -1<<63, 5, 5, 5, 5, 5, 5, 5, -1<<63, 5, 5, 5, 5, 5), impl.Config{}, false},
	} {
		got, ok := impl.RaiseRates(x.config)
		checkConfig(t, "RaiseRates of "+x.name, got, ok, x.want, x.ok)
	}
}

func TestRaiseRatesRefusesWhatRatesDoNotRepair(t *testing.T) {
	for _, c := range []impl.Config{
		{},
		changed(crossed(), func(c *impl.Config) { c.Name = "rate" }),
		changed(crossed(), func(c *impl.Config) { slices.Reverse(c.Classes) }),
		changed(crossed(), func(c *impl.Config) { c.Default = 10 }),
		withClass(crossed(), 20, func(x *impl.Class) { x.Parent = 20 }),
		withClass(crossed(), 20, func(x *impl.Class) { x.Parent = 0 }),
		withClass(crossed(), 20, func(x *impl.Class) { x.Limit = 0 }),
		withClass(crossed(), 20, func(x *impl.Class) { x.Burst = 0 }),
		withFilter(crossed(), 0, func(x *impl.Filter) { x.Target = 50 }),
		withClass(crossed(), 50, func(x *impl.Class) { x.Parent = 1 }),
		chain(9, 8, 7, 6, 5, 4, 3, 2, 1),
		star(1, 25), star(40, 40),
	} {
		got, ok := impl.RaiseRates(c)
		checkConfig(t, "RaiseRates of "+briefly(c), got, ok, impl.Config{}, false)
	}
}
