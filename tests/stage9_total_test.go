package tests

import (
	"slices"
	"strings"
	"testing"

	"loop.example/g00838/impl"
)

// Promise 33 for the functions of chapter 9.

// printArgs are the arguments of a call of a function of chapter 9, which uses those that it has.
type printArgs struct {
	config impl.Config
	class  impl.Class
	filter impl.Filter
	s      string
	i      int
}

type printCall struct {
	name string
	call func(x printArgs) answer
}

func printCalls() []printCall {
	return []printCall{
		{"PrintConfig", func(x printArgs) answer {
			text, ok := impl.PrintConfig(x.config)
			return answer{[]any{text}, ok}
		}},
		{"ClassHead", func(x printArgs) answer {
			text, ok := impl.ClassHead(x.class)
			return answer{[]any{text}, ok}
		}},
		{"FilterLine", func(x printArgs) answer {
			text, ok := impl.FilterLine(x.filter)
			return answer{[]any{text}, ok}
		}},
		{"CanonicalText", func(x printArgs) answer {
			text, ok := impl.CanonicalText(x.s)
			return answer{[]any{text}, ok}
		}},
		{"IsCanonicalText", func(x printArgs) answer {
			return answer{nil, impl.IsCanonicalText(x.s)}
		}},
		{"LineOfClass", func(x printArgs) answer {
			n, ok := impl.LineOfClass(x.config, x.i)
			return answer{[]any{n}, ok}
		}},
		{"LinesOfPart", func(x printArgs) answer {
			first, last, ok := impl.LinesOfPart(x.config, x.i)
			return answer{[]any{first, last}, ok}
		}},
		{"TreeText", func(x printArgs) answer {
			text, ok := impl.TreeText(x.config)
			return answer{[]any{text}, ok}
		}},
		{"WalkClasses", func(x printArgs) answer {
			l, ok := impl.WalkClasses(x.config)
			return answer{[]any{l}, ok}
		}},
	}
}

// checkAllPrints checks all functions of chapter 9 with the same arguments.
func checkAllPrints(t *testing.T, x printArgs) {
	t.Helper()
	first := configWithSpare(x.config, impl.Class{}, impl.Filter{})
	// These would be one class and one filter more.
	second := configWithSpare(x.config, leafClass(999, 50), impl.Filter{Prio: 99, Target: 20})
	for _, c := range printCalls() {
		name := func() string { return c.name + " of " + briefly(x) }
		checkTotal(t, name, first, second, func(config impl.Config) answer {
			y := x
			y.config = config
			return c.call(y)
		})
	}
}

func TestPromise33OfPrintedConfigs(t *testing.T) {
	for _, c := range slices.Concat(sampleConfigs(), rawConfigs(), tooLongConfigs(), []impl.Config{measured(), longest()}) {
		for _, i := range []int{-1, 0, 1, len(c.Classes) / 2, len(c.Classes) - 1, len(c.Classes), len(c.Classes) + 1} {
			checkAllPrints(t, printArgs{config: c, i: i})
		}
	}
	for _, i := range extremes {
		checkAllPrints(t, printArgs{config: crossed(), i: i})
		checkAllPrints(t, printArgs{config: single(), i: i})
	}
	for _, c := range changedInOneNumber(crossed()) {
		checkAllPrints(t, printArgs{config: c, i: 4})
	}
}

func TestPromise33OfClassesAndFiltersToPrint(t *testing.T) {
	for _, n := range extremes {
		for _, m := range extremes {
			x := impl.Class{Id: n, Parent: m, Rate: n, Ceil: m, Burst: n, Cburst: m, Prio: n, Limit: m}
			f := impl.Filter{Prio: n, Field: m, Mask: n, Value: m, Target: n}
			c := impl.Config{Name: "a", Classes: []impl.Class{x}, Filters: []impl.Filter{f}, Default: n}
			checkAllPrints(t, printArgs{config: c, class: x, filter: f, i: m})
			checkAllPrints(t, printArgs{config: c, class: leafClass(n, m), filter: impl.Filter{Prio: 1, Field: n, Mask: 65535, Value: m, Target: 1}})
			checkAllPrints(t, printArgs{class: innerClass(1, n, m), filter: impl.Filter{Prio: n, Mask: 65535, Target: m}})
		}
	}
}

func TestPromise33OfTextsToPrint(t *testing.T) {
	texts := slices.Concat(sampleTexts(), sampleSources(), rawTexts(), otherTexts(), tooLongTexts(), sampleParts(), []string{crossedText, measuredText})
	for at := range len(crossedText) {
		texts = append(texts, crossedText[:at], crossedText[at:], crossedText[:at]+"\xff"+crossedText[at+1:])
	}
	for seed := range uint32(200) {
		texts = append(texts, string(noise(int(seed), seed)), crossedText+string(noise(int(seed), seed)))
	}
	for _, s := range texts {
		checkAllPrints(t, printArgs{s: s})
	}
}

func TestPromise33OfCanonicalTextsThatAreNewMemory(t *testing.T) {
	for _, text := range []string{crossedText, measuredText, "qdisc a {\n  class 1 rate 1 ceil 1 burst 1500 cburst 1500 prio 0 limit 1;\n}\n"} {
		s := strings.Clone(text)
		if again, ok := impl.CanonicalText(s); again != text || !ok || isPartOf(again, s) {
			t.Errorf("CanonicalText(%q) = %q, %v, or it is the text itself", s, again, ok)
		}
	}
}

func TestFarTooLongListsAreNotPrinted(t *testing.T) {
	c, d := crossed(), crossed()
	c.Classes = slices.Repeat(c.Classes, 200000)
	d.Filters = slices.Repeat(d.Filters, 200000)
	for _, x := range []impl.Config{c, d} {
		for _, call := range printCalls() {
			if got := call.call(printArgs{config: x, i: 1, s: strings.Repeat(crossedText, 1000)}); got.ok {
				t.Errorf("%s accepts what is too long", call.name)
			}
		}
	}
}
