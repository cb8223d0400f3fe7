package tests

import (
	"fmt"
	"slices"
	"strings"

	"loop.example/g00838/impl"
)

// briefly returns the first part of what is written for a value.
func briefly(x any) string {
	return fmt.Sprintf("%.600s", fmt.Sprint(x))
}

// linked returns a class of which the Id and the Parent alone matter.
func linked(id, parent int) impl.Class {
	return impl.Class{Id: id, Parent: parent}
}

// rawOfLinks returns a configuration of classes, in the order in which they stand, from pairs of an Id and a Parent.
func rawOfLinks(links ...[2]int) impl.Config {
	var c impl.Config
	for _, x := range links {
		c.Classes = append(c.Classes, linked(x[0], x[1]))
	}
	return c
}

// ladder returns the links of classes 1 to a number, each one below the one before it, and the first one below a Parent.
func ladder(count, parent int) [][2]int {
	var links [][2]int
	for id := 1; id <= count; id++ {
		links = append(links, [2]int{id, parent})
		parent = id
	}
	return links
}

// linkedConfigs are configurations with ways up of many forms.
func linkedConfigs() []impl.Config {
	return []impl.Config{
		{},
		rawOfLinks([2]int{1, 0}),
		rawOfLinks([2]int{1, 1}),
		rawOfLinks([2]int{0, 0}),
		rawOfLinks([2]int{0, 0}, [2]int{1, 0}),
		rawOfLinks([2]int{1, 0}, [2]int{0, 5}),
		rawOfLinks([2]int{1, 0}, [2]int{2, 1}, [2]int{0, 2}),
		rawOfLinks([2]int{1, 2}, [2]int{2, 1}, [2]int{1, 2}),
		rawOfLinks([2]int{1, 0}, [2]int{1, 1}, [2]int{2, 1}),
		rawOfLinks([2]int{1, 1}, [2]int{1, 0}, [2]int{2, 1}),
		rawOfLinks([2]int{4, 3}, [2]int{3, 2}, [2]int{2, 1}, [2]int{1, 2}),
		rawOfLinks([2]int{-1, -1 << 63}, [2]int{-1 << 63, 1<<63 - 1}, [2]int{1<<63 - 1, -1}),
		rawOfLinks([2]int{-1, -2}, [2]int{-2, 0}),
		rawOfLinks(ladder(8, 0)...),
		rawOfLinks(ladder(9, 0)...),
		rawOfLinks(ladder(8, 77)...),
		rawOfLinks(ladder(40, 0)...),
		rawOfLinks(ladder(40, 40)...),
		rawOfLinks(ladder(40, 20)...),
		rawOfLinks(ladder(40, 1)...),
		rawOfLinks(slices.Repeat([][2]int{{7, 7}}, 40)...),
		rawOfLinks(slices.Repeat([][2]int{{7, 0}}, 40)...),
	}
}

// everyLinked returns all configurations of a number of classes with the Ids and the Parents from 0 to 2, with Rates by their places.
func everyLinked(count int) []impl.Config {
	l := []impl.Config{{}}
	for place := range count {
		var longer []impl.Config
		for _, c := range l {
			for n := range 9 {
				x := linked(n/3, n%3)
				x.Rate = []int{2, 1, 3, 1}[place]
				longer = append(longer, impl.Config{Classes: append(slices.Clone(c.Classes), x)})
			}
		}
		l = longer
	}
	return l
}

// rawNumbers are numbers around the bounds of the conditions, most of them small.
var rawNumbers = []int{
	0, 1, 2, 3, 4, 5, 1, 2, 3, 1, 2, 3, -1, 7, 8, 60, 61, 99, 100, 999, 1000, 1499, 1500, 65535, 65536, 100000, 100001,
	1000000, 1000001, 1000000000, 1000000001, 1<<63 - 1, -1 << 63,
}

// randomRaw returns a configuration of any numbers.
func randomRaw(seed int) impl.Config {
	dice := diceFor(1000 + seed)
	most := func() int { return rawNumbers[dice.IntN(len(rawNumbers))] }
	few := func() int { return rawNumbers[dice.IntN(12)] }
	c := impl.Config{Name: []string{"a", "rate", "", "raw"}[dice.IntN(4)], Default: few()}
	for range dice.IntN(1 + []int{5, 10, 40}[seed%3]) {
		x := impl.Class{Id: few(), Parent: few(), Rate: few(), Ceil: most(), Burst: most(), Cburst: most(), Prio: few(), Limit: few()}
		if seed%2 == 0 {
			x.Id = 1 + len(c.Classes)
			x.Parent = dice.IntN(3 + len(c.Classes))
		}
		if dice.IntN(30) == 0 {
			x.Rate = most()
		}
		c.Classes = append(c.Classes, x)
	}
	for range dice.IntN(1 + []int{5, 10, 40}[seed/3%3]) {
		c.Filters = append(c.Filters, impl.Filter{Prio: most(), Field: few(), Mask: most(), Value: few(), Target: few()})
	}
	return c
}

// rawConfigs are configurations of chapter 8, valid ones and others.
func rawConfigs() []impl.Config {
	l := linkedConfigs()
	for count := range 3 {
		l = append(l, everyLinked(count)...)
	}
	for _, c := range sampleConfigs() {
		if len(c.Classes) <= 40 && len(c.Filters) <= 40 {
			l = append(l, c)
		}
	}
	for seed := range 300 {
		l = append(l, randomRaw(seed))
	}
	c := crossed()
	return append(l,
		changed(c, func(c *impl.Config) { c.Classes = slices.Repeat(c.Classes, 5) }),
		changed(c, func(c *impl.Config) { c.Classes = make([]impl.Class, 40) }),
		changed(c, func(c *impl.Config) { c.Filters = make([]impl.Filter, 40) }),
		impl.Config{Name: strings.Repeat("a", 100000), Classes: make([]impl.Class, 40), Filters: make([]impl.Filter, 40)},
	)
}

// tooLongConfigs have a class or a filter too many, or far more.
func tooLongConfigs() []impl.Config {
	var l []impl.Config
	for _, c := range []impl.Config{{}, single(), crossed()} {
		for _, more := range []int{1, 2, 1000} {
			classes := append(slices.Clone(c.Classes), make([]impl.Class, 40+more-len(c.Classes))...)
			filters := append(slices.Clone(c.Filters), make([]impl.Filter, 40+more-len(c.Filters))...)
			l = append(l,
				changed(c, func(c *impl.Config) { c.Classes = classes }),
				changed(c, func(c *impl.Config) { c.Filters = filters }),
				changed(c, func(c *impl.Config) { c.Classes, c.Filters = classes, filters }),
			)
		}
	}
	return l
}

// slowPath returns the indices on the way up from a class, far more of them than there are classes if it never ends.
func slowPath(c impl.Config, i int) []int {
	var l []int
	for i >= 0 && len(l) < 200 {
		l = append(l, i)
		i = slowFind(c, c.Classes[i].Parent)
	}
	return l
}

// slowIndices returns the indices of the classes for which something holds.
func slowIndices(c impl.Config, holds func(i int, x impl.Class) bool) []int {
	var l []int
	for i, x := range c.Classes {
		if holds(i, x) {
			l = append(l, i)
		}
	}
	return l
}

func slowBadParents(c impl.Config) []int {
	return slowIndices(c, func(_ int, x impl.Class) bool { return x.Parent != 0 && slowFind(c, x.Parent) < 0 })
}

func slowCycles(c impl.Config) []int {
	return slowIndices(c, func(i int, _ impl.Class) bool { return slices.Contains(slowPath(c, i)[1:], i) })
}

func slowDeep(c impl.Config) []int {
	return slowIndices(c, func(i int, _ impl.Class) bool { return len(slowPath(c, i)) > 8 })
}

// slowOverfull reports with its last result whether all Rates are in the range of sums.
func slowOverfull(c impl.Config) ([]int, bool) {
	if !allClasses(c, func(_ int, x impl.Class) bool { return x.Rate >= 0 && x.Rate <= 1000000000 }) {
		return nil, false
	}
	return slowIndices(c, func(i int, x impl.Class) bool { return slowRates(c, i) > x.Rate }), true
}

func slowBadTargets(c impl.Config) []int {
	var l []int
	for i, x := range c.Filters {
		if !slowIsLeaf(c, x.Target) {
			l = append(l, i)
		}
	}
	return l
}

// slowHolds reports whether a condition holds by itself.
func slowHolds(c impl.Config, k int) bool {
	switch k {
	case 4:
		return allClasses(c, func(i int, _ impl.Class) bool {
			path := slowPath(c, i)
			return len(path) <= 8 && c.Classes[path[len(path)-1]].Parent == 0
		})
	case 6:
		l, ok := slowOverfull(c)
		return ok && len(l) == 0
	}
	// The other ones of chapter 4 do not rely on those before them.
	return slowConditions[k-1](c)
}

func slowBroken(c impl.Config) []int {
	var l []int
	for k := 1; k <= 10; k++ {
		if !slowHolds(c, k) {
			l = append(l, k)
		}
	}
	return l
}
