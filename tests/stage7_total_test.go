package tests

import (
	"fmt"
	"slices"
	"testing"

	"loop.example/g00838/impl"
)

// Promise 33 for the functions of chapter 7.

// faultArgs are the arguments of a call of a function of chapter 7, which uses those that it has.
type faultArgs struct {
	list  []impl.Fault
	fault impl.Fault
	s     string
	a, b  int
}

type faultCall struct {
	name string
	call func(x faultArgs) answer
}

func faultCalls() []faultCall {
	return []faultCall{
		{"IsFault", func(x faultArgs) answer {
			return answer{nil, impl.IsFault(x.fault)}
		}},
		{"KindName", func(x faultArgs) answer {
			name, ok := impl.KindName(x.a)
			return answer{[]any{name}, ok}
		}},
		{"KindNamed", func(x faultArgs) answer {
			kind, ok := impl.KindNamed(x.s)
			return answer{[]any{kind}, ok}
		}},
		{"FaultFits", func(x faultArgs) answer {
			fits, ok := impl.FaultFits(x.fault, x.s)
			return answer{[]any{fits}, ok}
		}},
		{"LineOf", func(x faultArgs) answer {
			line, column, ok := impl.LineOf(x.s, x.a)
			return answer{[]any{line, column}, ok}
		}},
		{"PlaceOf", func(x faultArgs) answer {
			at, ok := impl.PlaceOf(x.s, x.a, x.b)
			return answer{[]any{at}, ok}
		}},
		{"LineText", func(x faultArgs) answer {
			text, ok := impl.LineText(x.s, x.a)
			return answer{[]any{text}, ok}
		}},
		{"MarkedLine", func(x faultArgs) answer {
			mark, ok := impl.MarkedLine(x.s, x.fault)
			return answer{[]any{mark}, ok}
		}},
		{"EarliestFault", func(x faultArgs) answer {
			f, ok := impl.EarliestFault(x.list)
			return answer{[]any{f}, ok}
		}},
		{"CountFaults", func(x faultArgs) answer {
			counts, ok := impl.CountFaults(x.list)
			return answer{[]any{counts}, ok}
		}},
		{"FaultText", func(x faultArgs) answer {
			text, ok := impl.FaultText(x.fault)
			return answer{[]any{text}, ok}
		}},
		{"ParseFault", func(x faultArgs) answer {
			f, ok := impl.ParseFault(x.s)
			return answer{[]any{f}, ok}
		}},
	}
}

// checkAllFaults checks all functions of chapter 7 with the same arguments.
func checkAllFaults(t *testing.T, x faultArgs) {
	t.Helper()
	for _, c := range faultCalls() {
		name := func() string { return fmt.Sprintf("%s of %.200v", c.name, x) }
		// Any fault of the spare capacity would be the earliest one, or is not valid.
		first := withSpare(x.list, faultAt(1, 0))
		second := withSpare(x.list, faultAt(8, -1))
		checkTotal(t, name, first, second, func(list []impl.Fault) answer {
			y := x
			y.list = list
			return c.call(y)
		})
	}
}

func TestPromise33OfFaults(t *testing.T) {
	for _, f := range slices.Concat(sampleFaults(), brokenFaults()) {
		for _, s := range []string{"", "\n", "ab\nc\n", "token at 3", "none"} {
			checkAllFaults(t, faultArgs{[]impl.Fault{f}, f, s, f.Kind, f.At})
			checkAllFaults(t, faultArgs{[]impl.Fault{faultAt(2, 2), f}, f, s, f.At, f.Kind})
		}
	}
	for _, kind := range faultExtremes {
		for _, at := range faultExtremes {
			checkAllFaults(t, faultArgs{[]impl.Fault{faultAt(kind, at)}, faultAt(kind, at), "ab\nc\n", kind, at})
		}
	}
}

func TestPromise33OfTextsWithLines(t *testing.T) {
	texts := slices.Concat(sampleTexts(), textsWithLines(), tooLongLines(), malformedFaults(), faultNames)
	for _, s := range texts {
		for _, n := range []int{-1 << 63, -1, 0, 1, 2, 3, len(s), len(s) + 1, 6000, 6001, 6002, 1<<63 - 1} {
			checkAllFaults(t, faultArgs{nil, faultAt(1, n), s, n, 1})
			checkAllFaults(t, faultArgs{nil, faultAt(n, 0), s, 1, n})
		}
	}
}

func TestPromise33OfNoiseWithLines(t *testing.T) {
	for seed := range uint32(200) {
		data := noise(int(seed), seed)
		for i := range data {
			// Every eighth byte or so ends a line.
			if data[i] < 32 {
				data[i] = '\n'
			}
		}
		for n := range 30 {
			checkAllFaults(t, faultArgs{nil, faultAt(1+n%7, n*8), string(data), n, n})
		}
	}
}

func TestPromise33OfListsOfFaults(t *testing.T) {
	lists := [][]impl.Fault{nil, {}, sampleFaults(), brokenFaults(), sampleFaults()[:40], sampleFaults()[:41], slices.Repeat([]impl.Fault{{}}, 40)}
	for _, f := range slices.Concat(sampleFaults(), brokenFaults()) {
		for _, size := range []int{1, 2, 39, 40, 41, 1000} {
			lists = append(lists, slices.Repeat([]impl.Fault{f}, size), append(slices.Repeat([]impl.Fault{faultAt(7, 6000)}, size-1), f))
		}
	}
	for _, list := range lists {
		checkAllFaults(t, faultArgs{list: list})
	}
}
