package tests

import (
	"fmt"
	"slices"
	"testing"

	"loop.example/g00838/impl"
)

// Promise 33 for the functions of chapter 4.

// configArgs are the arguments of a call of a function of chapter 4, which uses those that it has.
type configArgs struct {
	config impl.Config
	class  impl.Class
	a, b   int
}

type configCall struct {
	name string
	call func(x configArgs) answer
}

func configCalls() []configCall {
	return []configCall{
		{"IsConfig", func(x configArgs) answer {
			return answer{nil, impl.IsConfig(x.config)}
		}},
		{"FindClass", func(x configArgs) answer {
			i, ok := impl.FindClass(x.config, x.a)
			return answer{[]any{i}, ok}
		}},
		{"TopOf", func(x configArgs) answer {
			i, ok := impl.TopOf(x.config)
			return answer{[]any{i}, ok}
		}},
		{"ChildClasses", func(x configArgs) answer {
			l, ok := impl.ChildClasses(x.config, x.a)
			return answer{[]any{l}, ok}
		}},
		{"LeavesOf", func(x configArgs) answer {
			l, ok := impl.LeavesOf(x.config)
			return answer{[]any{l}, ok}
		}},
		{"WayUp", func(x configArgs) answer {
			l, ok := impl.WayUp(x.config, x.a)
			return answer{[]any{l}, ok}
		}},
		{"IsBelow", func(x configArgs) answer {
			is, ok := impl.IsBelow(x.config, x.a, x.b)
			return answer{[]any{is}, ok}
		}},
		{"SpareRate", func(x configArgs) answer {
			n, ok := impl.SpareRate(x.config, x.a)
			return answer{[]any{n}, ok}
		}},
		{"OrderConfig", func(x configArgs) answer {
			c, ok := impl.OrderConfig(x.config)
			return answer{[]any{c}, ok}
		}},
		{"AddClass", func(x configArgs) answer {
			c, ok := impl.AddClass(x.config, x.class)
			return answer{[]any{c}, ok}
		}},
		{"DropClass", func(x configArgs) answer {
			c, ok := impl.DropClass(x.config, x.a)
			return answer{[]any{c}, ok}
		}},
		{"SetLimit", func(x configArgs) answer {
			c, ok := impl.SetLimit(x.config, x.a, x.b)
			return answer{[]any{c}, ok}
		}},
	}
}

// configWithSpare returns a copy of a configuration with elements that belong to the capacity of its lists alone.
func configWithSpare(c impl.Config, class impl.Class, filter impl.Filter) impl.Config {
	c.Classes, c.Filters = withSpare(c.Classes, class), withSpare(c.Filters, filter)
	return c
}

func (c configCall) check(t *testing.T, x configArgs) {
	t.Helper()
	first := configWithSpare(x.config, impl.Class{}, impl.Filter{})
	second := configWithSpare(x.config, leafClass(999, 50), impl.Filter{Prio: 99, Target: 20})
	name := func() string { return fmt.Sprintf("%s of %.200v", c.name, x) }
	checkTotal(t, name, first, second, func(config impl.Config) answer {
		y := x
		y.config = config
		return c.call(y)
	})
}

// checkAllConfigs checks all functions of chapter 4 with the same arguments.
func checkAllConfigs(t *testing.T, x configArgs) {
	t.Helper()
	for _, c := range configCalls() {
		c.check(t, x)
	}
}

// sampleConfigs are valid configurations and others.
func sampleConfigs() []impl.Config {
	samples := slices.Concat(namedConfigs(), brokenConfigs(), []impl.Config{
		changed(crossed(), func(c *impl.Config) { c.Filters = nil }),
		changed(crossed(), func(c *impl.Config) { c.Filters = []impl.Filter{} }),
		{Name: "a", Classes: []impl.Class{}, Filters: []impl.Filter{}},
		{Classes: make([]impl.Class, 24), Filters: make([]impl.Filter, 16)},
		{Name: "a", Classes: make([]impl.Class, 25), Filters: make([]impl.Filter, 17)},
	})
	for seed := range 5 {
		samples = append(samples, randomConfig(seed))
	}
	return samples
}

func TestPromise33OfConfigs(t *testing.T) {
	for _, c := range sampleConfigs() {
		for _, a := range append([]int{5, 6, 10, 20, 23, 24, 39, 50, 60, 999}, extremes...) {
			checkAllConfigs(t, configArgs{config: c, a: a, b: 0})
			checkAllConfigs(t, configArgs{config: c, a: 0, b: a})
			checkAllConfigs(t, configArgs{config: c, a: 20, b: a})
		}
		for a := range c.Classes[:min(len(c.Classes), 25)] {
			for b := a % 5; b < min(len(c.Classes), 25); b += 5 {
				checkAllConfigs(t, configArgs{config: c, a: a, b: b})
			}
			for _, b := range []int{0, 1, 60, 61} {
				checkAllConfigs(t, configArgs{config: c, a: c.Classes[a].Id, b: b})
			}
		}
	}
}

func TestPromise33OfConfigsWithExtremeNumbers(t *testing.T) {
	for _, c := range []impl.Config{single(), crossed()} {
		for _, d := range changedInOneNumber(c) {
			checkAllConfigs(t, configArgs{config: d, a: 1, b: 1, class: leafClass(30, 50)})
		}
	}
}

func TestPromise33OfFurtherClasses(t *testing.T) {
	calls := configCalls()
	add := calls[slices.IndexFunc(calls, func(c configCall) bool { return c.name == "AddClass" })]
	for _, c := range sampleConfigs() {
		for _, n := range append([]int{5, 20, 50, 60, 999}, extremes...) {
			for _, x := range []impl.Class{
				leafClass(n, 50), leafClass(30, n), leafClass(n, n), innerClass(30, 50, n), innerClass(n, 0, 1),
				{Id: n, Parent: n, Rate: n, Ceil: n, Burst: n, Cburst: n, Prio: n, Limit: n},
			} {
				add.check(t, configArgs{config: c, class: x})
			}
		}
	}
}

func TestLongListsAreRefusedAtOnce(t *testing.T) {
	c := crossed()
	c.Classes = slices.Repeat(c.Classes, 200000)
	d := crossed()
	d.Filters = slices.Repeat(d.Filters, 200000)
	for _, x := range []impl.Config{c, d} {
		for _, call := range configCalls() {
			if got := call.call(configArgs{config: x, a: 1, b: 1, class: leafClass(30, 50)}); got.ok {
				t.Errorf("%s accepts a list that is too long", call.name)
			}
		}
	}
}
