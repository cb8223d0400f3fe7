package tests

import (
	"fmt"
	"slices"
	"testing"

	"loop.example/g00838/impl"
)

// Promise 33 for the functions of chapter 5.

// curveArgs are the arguments of a call of a function of chapter 5, which uses those that it has.
type curveArgs struct {
	list []impl.Curve
	a, b impl.Curve
	n    int
	s    string
}

type curveCall struct {
	name string
	call func(x curveArgs) answer
}

func curveCalls() []curveCall {
	return []curveCall{
		{"IsCurve", func(x curveArgs) answer {
			return answer{nil, impl.IsCurve(x.a)}
		}},
		{"CurveAt", func(x curveArgs) answer {
			n, ok := impl.CurveAt(x.a, x.n)
			return answer{[]any{n}, ok}
		}},
		{"LeastTime", func(x curveArgs) answer {
			n, ok := impl.LeastTime(x.a, x.n)
			return answer{[]any{n}, ok}
		}},
		{"CurveShape", func(x curveArgs) answer {
			n, ok := impl.CurveShape(x.a)
			return answer{[]any{n}, ok}
		}},
		{"SameCurve", func(x curveArgs) answer {
			is, ok := impl.SameCurve(x.a, x.b)
			return answer{[]any{is}, ok}
		}},
		{"ShortCurve", func(x curveArgs) answer {
			c, ok := impl.ShortCurve(x.a)
			return answer{[]any{c}, ok}
		}},
		{"CurveBelow", func(x curveArgs) answer {
			is, ok := impl.CurveBelow(x.a, x.b)
			return answer{[]any{is}, ok}
		}},
		{"FirstAbove", func(x curveArgs) answer {
			n, ok := impl.FirstAbove(x.a, x.b)
			return answer{[]any{n}, ok}
		}},
		{"SumAt", func(x curveArgs) answer {
			n, ok := impl.SumAt(x.list, x.n)
			return answer{[]any{n}, ok}
		}},
		{"SumFits", func(x curveArgs) answer {
			is, ok := impl.SumFits(x.list, x.a)
			return answer{[]any{is}, ok}
		}},
		{"CurveText", func(x curveArgs) answer {
			text, ok := impl.CurveText(x.a)
			return answer{[]any{text}, ok}
		}},
		{"ParseCurve", func(x curveArgs) answer {
			c, ok := impl.ParseCurve(x.s)
			return answer{[]any{c}, ok}
		}},
	}
}

func (c curveCall) check(t *testing.T, x curveArgs) {
	t.Helper()
	name := func() string { return fmt.Sprintf("%s of %.200v", c.name, x) }
	first := withSpare(x.list, curve(1, 2, 3))
	second := withSpare(x.list, curve(-1, 10001, 5))
	checkTotal(t, name, first, second, func(list []impl.Curve) answer {
		y := x
		y.list = list
		return c.call(y)
	})
}

// checkAllCurves checks all functions of chapter 5 with the same arguments.
func checkAllCurves(t *testing.T, x curveArgs) {
	t.Helper()
	for _, c := range curveCalls() {
		c.check(t, x)
	}
}

func TestPromise33OfCurves(t *testing.T) {
	base := curve(10, 4, 2)
	for _, n := range curveExtremes {
		checkAllCurves(t, curveArgs{a: curve(n, n, n), b: base, n: n})
		for _, c := range withNumbers(base, n) {
			for _, m := range curveExtremes {
				checkAllCurves(t, curveArgs{list: []impl.Curve{base, c}, a: c, b: base, n: m})
				for _, d := range withNumbers(c, m) {
					checkAllCurves(t, curveArgs{list: []impl.Curve{d}, a: base, b: d, n: n})
				}
			}
		}
	}
}

func TestPromise33OfPairsOfCurves(t *testing.T) {
	curves := slices.Concat(sampleCurves(), brokenCurves())
	for _, a := range curves {
		for _, b := range curves {
			checkAllCurves(t, curveArgs{list: []impl.Curve{b}, a: a, b: b, n: a.First})
		}
	}
}

func TestPromise33OfListsOfCurves(t *testing.T) {
	lists := [][]impl.Curve{nil, {}, sampleCurves(), brokenCurves(), sampleCurves()[:12], sampleCurves()[:13]}
	for _, c := range slices.Concat(sampleCurves(), brokenCurves()) {
		for _, size := range []int{1, 2, 11, 12, 13, 1000} {
			lists = append(lists, slices.Repeat([]impl.Curve{c}, size))
		}
	}
	for _, list := range lists {
		for _, n := range []int{-1, 0, 100000, 100001} {
			checkAllCurves(t, curveArgs{list: list, a: curve(100000, 10000, 100000), n: n})
		}
	}
}

func TestPromise33OfTextsOfCurves(t *testing.T) {
	texts := slices.Concat(sampleTexts(), malformedCurves())
	for _, c := range curveTexts() {
		texts = append(texts, c.text)
	}
	for _, s := range texts {
		checkAllCurves(t, curveArgs{s: s})
	}
}
