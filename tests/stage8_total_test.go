package tests

import (
	"slices"
	"strings"
	"testing"

	"loop.example/g00838/impl"
)

// Promise 33 for the functions of chapter 8.

// rawArgs are the arguments of a call of a function of chapter 8, which uses those that it has.
type rawArgs struct {
	config impl.Config
	n      int
}

type rawCall struct {
	name string
	call func(x rawArgs) answer
}

func rawCalls() []rawCall {
	calls := []rawCall{
		{"ConditionHolds", func(x rawArgs) answer {
			holds, ok := impl.ConditionHolds(x.config, x.n)
			return answer{[]any{holds}, ok}
		}},
		{"WitnessOf", func(x rawArgs) answer {
			c, ok := impl.WitnessOf(x.n)
			return answer{[]any{c}, ok}
		}},
		{"WideWitness", func(x rawArgs) answer {
			c, ok := impl.WideWitness(x.n)
			return answer{[]any{c}, ok}
		}},
		{"RaiseRates", func(x rawArgs) answer {
			c, ok := impl.RaiseRates(x.config)
			return answer{[]any{c}, ok}
		}},
	}
	for _, s := range []listSearch{brokenConditions, badParents, cycleClasses, deepClasses, overfullClasses, badTargets} {
		calls = append(calls, rawCall{s.name, func(x rawArgs) answer {
			l, ok := s.call(x.config)
			return answer{[]any{l}, ok}
		}})
	}
	return calls
}

func (c rawCall) check(t *testing.T, x rawArgs) {
	t.Helper()
	first := configWithSpare(x.config, impl.Class{}, impl.Filter{})
	// Classes with these Ids would be parents and targets.
	second := configWithSpare(x.config, impl.Class{Id: 1, Parent: 20, Rate: 7}, impl.Filter{Prio: 99, Target: 20})
	name := func() string { return c.name + " of " + briefly(x) }
	checkTotal(t, name, first, second, func(config impl.Config) answer {
		return c.call(rawArgs{config, x.n})
	})
}

// checkAllRaw checks all functions of chapter 8 with the same arguments.
func checkAllRaw(t *testing.T, c impl.Config, n int) {
	t.Helper()
	for _, call := range rawCalls() {
		call.check(t, rawArgs{c, n})
	}
}

func TestPromise33OfRawConfigs(t *testing.T) {
	for i, c := range slices.Concat(rawConfigs(), tooLongConfigs()) {
		checkAllRaw(t, c, i%12)
	}
	for _, c := range []impl.Config{single(), crossed(), lowered(crossed(), 1), lowered(crossed(), 2)} {
		for _, d := range changedInOneNumber(c) {
			checkAllRaw(t, d, 6)
		}
		for n := range 50 {
			checkAllRaw(t, c, n)
		}
		for _, n := range extremes {
			checkAllRaw(t, c, n)
		}
	}
}

func TestPromise33OfExtremeNumbersEverywhere(t *testing.T) {
	for i, n := range extremes {
		for _, m := range extremes {
			x := impl.Class{Id: n, Parent: m, Rate: n, Ceil: m, Burst: n, Cburst: m, Prio: n, Limit: m}
			y := impl.Class{Id: m, Parent: n, Rate: m, Ceil: n, Burst: m, Cburst: n, Prio: m, Limit: n}
			f := impl.Filter{Prio: n, Field: m, Mask: n, Value: m, Target: n}
			c := impl.Config{Name: strings.Repeat("z", i), Classes: []impl.Class{x, y}, Filters: []impl.Filter{f, f}, Default: n}
			checkAllRaw(t, c, 1+i%10)
			checkAllSearches(t, c)
		}
	}
	for _, n := range extremes {
		x := impl.Class{Id: n, Parent: n, Rate: n, Ceil: n, Burst: n, Cburst: n, Prio: n, Limit: n}
		for _, count := range []int{39, 40, 41} {
			checkAllRaw(t, impl.Config{Classes: slices.Repeat([]impl.Class{x}, count), Default: n}, 6)
		}
	}
}

func TestFarTooLongListsAreRefusedAtOnce(t *testing.T) {
	c, d := crossed(), crossed()
	c.Classes = slices.Repeat(c.Classes, 200000)
	d.Filters = slices.Repeat(d.Filters, 200000)
	for _, x := range []impl.Config{c, d} {
		for _, call := range rawCalls() {
			if got := call.call(rawArgs{x, 99}); got.ok {
				t.Errorf("%s accepts a list that is too long", call.name)
			}
		}
	}
}
