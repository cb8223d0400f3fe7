package tests

import (
	"fmt"
	"slices"
	"strconv"
	"strings"

	"loop.example/g00838/impl"
)

// crossedText is the canonical text of crossed().
const crossedText = `qdisc eth default 5 {
  class 50 rate 110 ceil 110 burst 1500 cburst 1500 prio 0 {
    class 10 rate 30 ceil 30 burst 1500 cburst 1500 prio 0 {
      class 90 rate 30 ceil 30 burst 1500 cburst 1500 prio 0 {
        class 1 rate 30 ceil 30 burst 1500 cburst 1500 prio 0 limit 11;
      }
    }
    class 20 rate 30 ceil 30 burst 1500 cburst 1500 prio 0 limit 9;
    class 70 rate 41 ceil 41 burst 1500 cburst 1500 prio 0 {
      class 5 rate 15 ceil 15 burst 1500 cburst 1500 prio 0 limit 7;
      class 60 rate 25 ceil 25 burst 1500 cburst 1500 prio 0 limit 60;
    }
  }
  filter 1 source 0xffff / 0xffff -> 1;
  filter 50 mark 0x0 / 0x0 -> 60;
  filter 99 port 0x50 / 0xf0 -> 60;
}
`

// measured returns a configuration with two leaves, with numbers whose texts have units and others.
func measured() impl.Config {
	return impl.Config{Name: "abcdefgh", Default: 12, Classes: []impl.Class{
		{Id: 3, Rate: 100000, Ceil: 100000, Burst: 1000000, Cburst: 999000, Prio: 7},
		{Id: 12, Parent: 3, Rate: 9000, Ceil: 9500, Burst: 2000, Cburst: 2500, Prio: 1, Limit: 10},
		{Id: 999, Parent: 3, Rate: 999, Ceil: 1000, Burst: 999999, Cburst: 1000000, Prio: 2, Limit: 60},
	}, Filters: []impl.Filter{
		{Prio: 1, Field: 0, Mask: 0, Value: 0, Target: 12},
		{Prio: 2, Field: 1, Mask: 65535, Value: 0, Target: 999},
		{Prio: 98, Field: 2, Mask: 65535, Value: 65535, Target: 12},
		{Prio: 99, Field: 3, Mask: 4096, Value: 4096, Target: 999},
	}}
}

// measuredText is the canonical text of measured().
const measuredText = `qdisc abcdefgh default 12 {
  class 3 rate 100k ceil 100k burst 1m cburst 999k prio 7 {
    class 12 rate 9k ceil 9500 burst 2k cburst 2500 prio 1 limit 10;
    class 999 rate 999 ceil 1k burst 999999 cburst 1m prio 2 limit 60;
  }
  filter 1 source 0x0 / 0x0 -> 12;
  filter 2 dest 0x0 / 0xffff -> 999;
  filter 98 port 0xffff / 0xffff -> 12;
  filter 99 mark 0x1000 / 0x1000 -> 999;
}
`

// longest returns a configuration with a canonical text of very many bytes, whose leaves are at the deepest level.
func longest() impl.Config {
	var classes []impl.Class
	for id := 976; id <= 999; id++ {
		x := impl.Class{Id: id, Parent: min(id-1, 982), Rate: 5882, Ceil: 99999, Burst: 999999, Cburst: 999999, Prio: 7, Limit: 60}
		if id <= 982 {
			x.Rate, x.Limit = 99999, 0
		}
		classes = append(classes, x)
	}
	classes[0].Parent = 0
	c := configOf(classes...)
	c.Name, c.Default = "abcdefgh", 999
	for prio := 84; prio <= 99; prio++ {
		c.Filters = append(c.Filters, impl.Filter{Prio: prio, Field: 0, Mask: 65535, Value: 65535, Target: prio + 900})
	}
	return c
}

// printedConfigs are valid configurations with trees of many forms.
func printedConfigs() []impl.Config {
	l := append(namedConfigs(), measured(), longest(), configOf(leafClass(999, 0)))
	for depth := range impl.MaxDepth {
		c, _ := impl.WitnessOf(depth + 1)
		l = append(l, c)
	}
	for n := 2; n <= impl.MaxClasses; n++ {
		c, _ := impl.WideWitness(n)
		l = append(l, c)
	}
	for seed := range 300 {
		l = append(l, randomConfig(seed))
	}
	return l
}

// mixedConfigs are configurations of which most are not valid.
func mixedConfigs() []impl.Config {
	return slices.Concat(rawConfigs(), tooLongConfigs(), changedInOneNumber(crossed()), changedInOneNumber(single()))
}

// slowPrinting is what was found of the canonical text of a configuration. What belongs to a class is at its index.
type slowPrinting struct {
	lines       []string
	first, last []int
	order       []int
	tree        string
}

func (p slowPrinting) text() string {
	return strings.Join(p.lines, "\n") + "\n"
}

// slowUnit writes a number with the greatest unit, by the digits 0 at its end.
func slowUnit(n int) string {
	text := strconv.Itoa(n)
	if digits, found := strings.CutSuffix(text, "000000"); found {
		return digits + "m"
	}
	if digits, found := strings.CutSuffix(text, "000"); found {
		return digits + "k"
	}
	return text
}

// slowDown returns the Ids on the way from the top to a class.
func slowDown(c impl.Config, i int) []int {
	var ids []int
	for _, k := range slowPath(c, i) {
		ids = append(ids, c.Classes[k].Id)
	}
	slices.Reverse(ids)
	return ids
}

// slowWalk orders classes by their ways from the top.
func slowWalk(c impl.Config) []int {
	order := upFrom(0, len(c.Classes))
	slices.SortFunc(order, func(a, b int) int { return slices.Compare(slowDown(c, a), slowDown(c, b)) })
	return order
}

// slowPrint writes the classes in the order of slowWalk, and ends those that are open where the next one is not inside them.
func slowPrint(c impl.Config) slowPrinting {
	p := slowPrinting{first: make([]int, len(c.Classes)), last: make([]int, len(c.Classes)), order: slowWalk(c)}
	write := func(level int, text string) { p.lines = append(p.lines, strings.Repeat("  ", level)+text) }
	var open []int
	endTo := func(count int) {
		for len(open) > count {
			write(len(open), "}")
			p.last[open[len(open)-1]] = len(p.lines)
			open = open[:len(open)-1]
		}
	}
	write(0, strings.Replace(fmt.Sprintf("qdisc %s default %d {", c.Name, c.Default), " default 0 ", " ", 1))
	for _, i := range p.order {
		x, level := c.Classes[i], len(slowPath(c, i))
		endTo(level - 1)
		p.first[i], p.last[i] = len(p.lines)+1, len(p.lines)+1
		if len(slowChildren(c, i)) == 0 {
			write(level, leafText(x, slowUnit))
		} else {
			write(level, headText(x, slowUnit)+"{")
			open = append(open, i)
		}
		p.tree += fmt.Sprintf("%*s%d\n", 2*(level-1), "", x.Id)
	}
	endTo(0)
	for _, x := range c.Filters {
		write(1, slowFilterLine(x))
	}
	write(0, "}")
	return p
}

func slowFilterLine(x impl.Filter) string {
	return fmt.Sprintf("filter %d %s %#x / %#x -> %d;", x.Prio, grammar["FIELD"][x.Field], x.Value, x.Mask, x.Target)
}
