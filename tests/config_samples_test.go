package tests

import (
	"cmp"
	"math/rand/v2"
	"slices"
	"strings"

	"loop.example/g00838/impl"
)

// leafClass returns a leaf with the least numbers.
func leafClass(id, parent int) impl.Class {
	return impl.Class{Id: id, Parent: parent, Rate: 1, Ceil: 1, Burst: 1500, Cburst: 1500, Limit: 1}
}

// innerClass returns a class for children with a sum of Rates.
func innerClass(id, parent, rate int) impl.Class {
	return impl.Class{Id: id, Parent: parent, Rate: rate, Ceil: rate, Burst: 1500, Cburst: 1500}
}

// configOf returns the configuration of some classes, in their order by Ids.
func configOf(classes ...impl.Class) impl.Config {
	slices.SortFunc(classes, func(a, b impl.Class) int { return cmp.Compare(a.Id, b.Id) })
	return impl.Config{Name: "a", Classes: classes}
}

// chain returns classes of which each one is below the one before it, with Rates that leave 1 for a further child.
func chain(ids ...int) impl.Config {
	var classes []impl.Class
	parent := 0
	for i, id := range ids {
		classes = append(classes, innerClass(id, parent, 2*(len(ids)-i)))
		parent = id
	}
	classes[len(ids)-1].Limit = 1
	return configOf(classes...)
}

// star returns a top and leaves below it, with the Ids from 1 to a number.
func star(top, count int) impl.Config {
	classes := []impl.Class{innerClass(top, 0, 30)}
	for id := 1; id <= count; id++ {
		if id != top {
			classes = append(classes, leafClass(id, top))
		}
	}
	return configOf(classes...)
}

// crossed returns a configuration whose Ids are in another order than its tree:
//
//	50 rate 110
//	  70 rate 41
//	     5 rate 15, the default
//	    60 rate 25, a target
//	  10 rate 30
//	    90 rate 30
//	       1 rate 30, a target
//	  20 rate 30
func crossed() impl.Config {
	leaf := func(id, parent, rate, limit int) impl.Class {
		x := innerClass(id, parent, rate)
		x.Limit = limit
		return x
	}
	c := configOf(
		innerClass(50, 0, 110),
		innerClass(70, 50, 41), leaf(5, 70, 15, 7), leaf(60, 70, 25, 60),
		innerClass(10, 50, 30), innerClass(90, 10, 30), leaf(1, 90, 30, 11),
		leaf(20, 50, 30, 9),
	)
	c.Name, c.Default = "eth", 5
	c.Filters = []impl.Filter{
		{Prio: 1, Field: 0, Mask: 65535, Value: 65535, Target: 1},
		{Prio: 50, Field: 3, Mask: 0, Value: 0, Target: 60},
		{Prio: 99, Field: 2, Mask: 240, Value: 80, Target: 60},
	}
	return c
}

// single returns a configuration with one class, which is the default.
func single() impl.Config {
	c := configOf(leafClass(1, 0))
	c.Default = 1
	return c
}

// crowded returns a configuration with as many classes and filters as there may be, whose top stands in the middle.
func crowded() impl.Config {
	c := star(12, 24)
	for prio := 1; prio <= 16; prio++ {
		c.Filters = append(c.Filters, impl.Filter{Prio: prio, Field: prio % 4, Mask: 65535, Value: prio, Target: 24})
	}
	return c
}

// cloned returns a configuration with lists of its own.
func cloned(c impl.Config) impl.Config {
	c.Classes, c.Filters = slices.Clone(c.Classes), slices.Clone(c.Filters)
	return c
}

// changed returns a configuration after a change of a copy.
func changed(c impl.Config, change func(c *impl.Config)) impl.Config {
	c = cloned(c)
	change(&c)
	return c
}

// withClass returns a configuration in which the class with an Id is changed.
func withClass(c impl.Config, id int, change func(x *impl.Class)) impl.Config {
	return changed(c, func(c *impl.Config) {
		change(&c.Classes[slices.IndexFunc(c.Classes, func(x impl.Class) bool { return x.Id == id })])
	})
}

// withFilter returns a configuration in which the filter at an index is changed.
func withFilter(c impl.Config, i int, change func(x *impl.Filter)) impl.Config {
	return changed(c, func(c *impl.Config) { change(&c.Filters[i]) })
}

func sameConfig(a, b impl.Config) bool {
	return a.Name == b.Name && a.Default == b.Default && slices.Equal(a.Classes, b.Classes) && slices.Equal(a.Filters, b.Filters)
}

func isZeroConfig(c impl.Config) bool {
	return sameConfig(c, impl.Config{})
}

// namedConfigs are valid configurations.
func namedConfigs() []impl.Config {
	return []impl.Config{
		single(), crossed(), crowded(), star(1, 2), star(2, 2), star(24, 24),
		chain(1, 2, 3, 4, 5, 6, 7, 8), chain(999, 8, 7, 6, 5, 4, 3, 2), chain(40, 3, 90, 1, 700, 2, 41, 39), chain(2, 1),
	}
}

// diceFor returns a source of numbers that look random and are the same in every run.
func diceFor(seed int) *rand.Rand {
	return rand.New(rand.NewPCG(uint64(seed), 4))
}

// randomConfig returns a valid configuration, some of whose leaves are no targets.
func randomConfig(seed int) impl.Config {
	dice := diceFor(seed)
	classes := randomTree(dice, 1+dice.IntN(impl.MaxClasses))
	var leaves []int
	for _, x := range classes {
		if x.Limit > 0 && dice.IntN(2) == 0 {
			leaves = append(leaves, x.Id)
		}
	}
	c := configOf(classes...)
	c.Name = strings.Repeat("xyzzy", 2)[:1+dice.IntN(8)]
	if len(leaves) == 0 {
		return c
	}
	for prio := 1 + dice.IntN(20); prio <= 99 && len(c.Filters) < impl.MaxFilters; prio += 1 + dice.IntN(20) {
		mask := dice.IntN(65536)
		c.Filters = append(c.Filters, impl.Filter{
			Prio: prio, Field: dice.IntN(4), Mask: mask, Value: dice.IntN(65536) & mask, Target: leaves[dice.IntN(len(leaves))],
		})
	}
	if dice.IntN(3) > 0 {
		c.Default = leaves[dice.IntN(len(leaves))]
	}
	return c
}

// randomTree returns the classes of a tree, the top first and each parent before its children.
func randomTree(dice *rand.Rand, count int) []impl.Class {
	ids := dice.Perm(999)
	depths := make([]int, count)
	classes := make([]impl.Class, count)
	parents := make([]int, count)
	for i := range classes {
		classes[i] = leafClass(1+ids[i], 0)
		if i == 0 {
			continue
		}
		k := max(0, i-1-dice.IntN(4))
		for depths[k] == impl.MaxDepth-1 {
			k--
		}
		parents[i], depths[i], classes[i].Parent = k, depths[k]+1, classes[k].Id
		classes[k].Limit = 0
	}
	sums := make([]int, count)
	for i := count - 1; i >= 0; i-- {
		x := &classes[i]
		x.Rate = max(1, sums[i]+dice.IntN(2)*dice.IntN(50))
		x.Ceil = x.Rate + dice.IntN(2)*dice.IntN(1000)
		x.Burst, x.Cburst, x.Prio = 1500+dice.IntN(998501), 1500+dice.IntN(998501), dice.IntN(8)
		if x.Limit > 0 {
			x.Limit = 1 + dice.IntN(60)
		}
		sums[parents[i]] += x.Rate
	}
	return classes
}

// brokenConfigs are configurations that are not valid, at least one for each condition.
func brokenConfigs() []impl.Config {
	c := crossed()
	long := star(1, 24)
	long.Classes = append(long.Classes, leafClass(25, 1))
	filled := crowded()
	filled.Filters = append(filled.Filters, impl.Filter{Prio: 17, Target: 24})
	return []impl.Config{
		{},
		{Name: "a"},
		changed(c, func(c *impl.Config) { c.Name = "" }),
		changed(c, func(c *impl.Config) { c.Name = "rate" }),
		changed(c, func(c *impl.Config) { c.Name = strings.Repeat("a", 100000) }),
		changed(c, func(c *impl.Config) { slices.Reverse(c.Classes) }),
		changed(c, func(c *impl.Config) { slices.Reverse(c.Filters) }),
		long,
		changed(c, func(c *impl.Config) { c.Classes = slices.Repeat(c.Classes, 20) }),
		withClass(c, 20, func(x *impl.Class) { x.Parent = 0 }),
		withClass(c, 20, func(x *impl.Class) { x.Parent = 21 }),
		withClass(c, 20, func(x *impl.Class) { x.Parent = 20 }),
		withClass(c, 50, func(x *impl.Class) { x.Parent = 1 }),
		withClass(c, 10, func(x *impl.Class) { x.Parent = 90 }),
		chain(9, 8, 7, 6, 5, 4, 3, 2, 1),
		withClass(c, 20, func(x *impl.Class) { x.Ceil = 29 }),
		withClass(c, 20, func(x *impl.Class) { x.Rate, x.Ceil = 40, 40 }),
		withClass(c, 20, func(x *impl.Class) { x.Burst = 1499 }),
		withClass(c, 20, func(x *impl.Class) { x.Limit = 0 }),
		withClass(c, 10, func(x *impl.Class) { x.Limit = 1 }),
		filled,
		changed(c, func(c *impl.Config) { c.Filters = slices.Repeat(c.Filters, 20) }),
		withFilter(c, 0, func(x *impl.Filter) { x.Target = 10 }),
		changed(c, func(c *impl.Config) { c.Default = 10 }),
	}
}
