package tests

import (
	"fmt"
	"slices"
	"strings"
	"testing"

	"loop.example/g00838/impl"
)

// Promise 33 for the functions of chapter 6.

// parseArgs are the arguments of a call of a function of chapter 6, which uses those that it has. They are strings and numbers, which no call could change.
type parseArgs struct {
	s      string
	parent int
}

type parseCall struct {
	name string
	call func(x parseArgs) answer
}

func parseCalls() []parseCall {
	return []parseCall{
		{"ParseRaw", func(x parseArgs) answer {
			c, fault, ok := impl.ParseRaw(x.s)
			return answer{[]any{c, fault}, ok}
		}},
		{"ParseConfig", func(x parseArgs) answer {
			c, ok := impl.ParseConfig(x.s)
			return answer{[]any{c}, ok}
		}},
		{"FaultOf", func(x parseArgs) answer {
			fault, ok := impl.FaultOf(x.s)
			return answer{[]any{fault}, ok}
		}},
		{"RightTokens", func(x parseArgs) answer {
			n, ok := impl.RightTokens(x.s)
			return answer{[]any{n}, ok}
		}},
		{"NextTexts", func(x parseArgs) answer {
			l, ok := impl.NextTexts(x.s)
			return answer{[]any{l}, ok}
		}},
		{"ParseFilter", func(x parseArgs) answer {
			filter, fault, ok := impl.ParseFilter(x.s)
			return answer{[]any{filter, fault}, ok}
		}},
		{"ParseLeaf", func(x parseArgs) answer {
			class, fault, ok := impl.ParseLeaf(x.s, x.parent)
			return answer{[]any{class, fault}, ok}
		}},
		{"DeepestClass", func(x parseArgs) answer {
			n, ok := impl.DeepestClass(x.s)
			return answer{[]any{n}, ok}
		}},
	}
}

// checkAllParsers checks all functions of chapter 6 with the same arguments.
func checkAllParsers(t *testing.T, x parseArgs) {
	t.Helper()
	for _, c := range parseCalls() {
		name := func() string { return fmt.Sprintf("%s of %.200v", c.name, x) }
		checkTotal(t, name, x.s, strings.Clone(x.s), func(s string) answer {
			return c.call(parseArgs{s, x.parent})
		})
	}
}

// sampleParts are texts that are one part, and others.
func sampleParts() []string {
	return []string{
		filtersText(1), filtersText(2), "filter 1k mark 0x5/1000m->0;", "filter 1 port 2/3", "filter 1 limit 2/3->4;",
		leavesText(1), leavesText(2), nestedText(1, ""), "class 1 rate 2", "class 1 rate 2 ceil 3 burst 4 cburst 5 prio 6 limit 1000m;",
	}
}

func TestPromise33OfTextsToParse(t *testing.T) {
	for _, s := range slices.Concat(sampleTexts(), sampleSources(), rawTexts(), otherTexts(), tooLongTexts(), sampleParts()) {
		checkAllParsers(t, parseArgs{s, 7})
	}
}

func TestPromise33OfBeginningsAndNoise(t *testing.T) {
	for _, s := range append(sampleParts(), richSource, rawOf(nestedText(9, ""))) {
		for at := range len(s) {
			checkAllParsers(t, parseArgs{s[:at], 0})
			checkAllParsers(t, parseArgs{s[at:], 999})
			checkAllParsers(t, parseArgs{s[:at] + "\xff" + s[at+1:], 1})
		}
	}
	for seed := range uint32(300) {
		checkAllParsers(t, parseArgs{string(noise(int(seed), seed)), 1})
		checkAllParsers(t, parseArgs{"qdisc a {" + string(noise(int(seed), seed)), 1})
	}
}

func TestPromise33OfParents(t *testing.T) {
	for _, s := range append(sampleParts(), "", "qdisc a {}", richSource, strings.Repeat(" ", 4001)) {
		for _, parent := range append([]int{998, 999, 1000}, extremes...) {
			checkAllParsers(t, parseArgs{s, parent})
		}
	}
}
