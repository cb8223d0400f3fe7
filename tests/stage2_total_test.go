package tests

import (
	"fmt"
	"slices"
	"testing"

	"loop.example/g00838/impl"
)

// Promise 33 for the functions of chapter 2.

// numberArgs are the arguments of a call of a function of chapter 2, which uses those that it has.
type numberArgs struct {
	list    []int
	s, t    string
	a, b, c int
	up      bool
}

type numberCall struct {
	name string
	call func(x numberArgs) answer
}

func numberCalls() []numberCall {
	return []numberCall{
		{"NumberText", func(x numberArgs) answer {
			text, ok := impl.NumberText(x.a)
			return answer{[]any{text}, ok}
		}},
		{"ReadNumber", func(x numberArgs) answer {
			n, ok := impl.ReadNumber(x.s)
			return answer{[]any{n}, ok}
		}},
		{"IsCanonical", func(x numberArgs) answer {
			return answer{nil, impl.IsCanonical(x.s)}
		}},
		{"FormsOf", func(x numberArgs) answer {
			forms, ok := impl.FormsOf(x.a)
			return answer{[]any{forms}, ok}
		}},
		{"HexText", func(x numberArgs) answer {
			text, ok := impl.HexText(x.a)
			return answer{[]any{text}, ok}
		}},
		{"ReadHex", func(x numberArgs) answer {
			n, ok := impl.ReadHex(x.s)
			return answer{[]any{n}, ok}
		}},
		{"ReadAny", func(x numberArgs) answer {
			n, ok := impl.ReadAny(x.s)
			return answer{[]any{n}, ok}
		}},
		{"AddValues", func(x numberArgs) answer {
			n, ok := impl.AddValues(x.list)
			return answer{[]any{n}, ok}
		}},
		{"MultiplyValues", func(x numberArgs) answer {
			n, ok := impl.MultiplyValues(x.a, x.b)
			return answer{[]any{n}, ok}
		}},
		{"ScaleValue", func(x numberArgs) answer {
			n, ok := impl.ScaleValue(x.a, x.b, x.c, x.up)
			return answer{[]any{n}, ok}
		}},
		{"CompareTexts", func(x numberArgs) answer {
			n, ok := impl.CompareTexts(x.s, x.t)
			return answer{[]any{n}, ok}
		}},
	}
}

func (c numberCall) check(t *testing.T, x numberArgs) {
	t.Helper()
	name := func() string { return fmt.Sprintf("%s of %.200v", c.name, x) }
	checkTotal(t, name, withSpare(x.list, 0), withSpare(x.list, -1), func(list []int) answer {
		y := x
		y.list = list
		return c.call(y)
	})
}

// checkAllNumbers checks all functions of chapter 2 with the same arguments.
func checkAllNumbers(t *testing.T, x numberArgs) {
	t.Helper()
	for _, c := range numberCalls() {
		c.check(t, x)
	}
}

func TestPromise33OfNumbersWithUnits(t *testing.T) {
	for _, a := range extremes {
		for _, b := range extremes {
			for _, c := range extremes {
				for _, up := range []bool{false, true} {
					checkAllNumbers(t, numberArgs{a: a, b: b, c: c, up: up})
				}
			}
		}
	}
}

func TestPromise33OfTextsOfNumbers(t *testing.T) {
	texts := sampleTexts()
	for _, c := range slices.Concat(decimalCases(), hexadecimalCases()) {
		texts = append(texts, c.s)
	}
	for _, s := range texts {
		for _, other := range texts {
			checkAllNumbers(t, numberArgs{s: s, t: other})
		}
	}
}

func TestPromise33OfListsOfValues(t *testing.T) {
	lists := [][]int{nil, {}, {1, 2, 3}, {1000000000, 1}, {5, -5}, extremes, extremes[:20]}
	for _, n := range extremes {
		for _, size := range []int{1, 2, 39, 40, 41, 5000} {
			lists = append(lists, slices.Repeat([]int{n}, size))
		}
	}
	for _, list := range lists {
		checkAllNumbers(t, numberArgs{list: list})
	}
}
