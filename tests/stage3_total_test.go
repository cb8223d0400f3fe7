package tests

import (
	"fmt"
	"slices"
	"strings"
	"testing"

	"loop.example/g00838/impl"
)

// Promise 33 for the functions of chapter 3.

// tokenArgs are the arguments of a call of a function of chapter 3, which uses those that it has.
type tokenArgs struct {
	list []impl.Token
	s, t string
	at   int
	a, b impl.Token
}

type tokenCall struct {
	name string
	call func(x tokenArgs) answer
}

func tokenCalls() []tokenCall {
	return []tokenCall{
		{"IsKey", func(x tokenArgs) answer {
			return answer{nil, impl.IsKey(x.s)}
		}},
		{"SkipSpace", func(x tokenArgs) answer {
			at, ok := impl.SkipSpace(x.s, x.at)
			return answer{[]any{at}, ok}
		}},
		{"TokenAt", func(x tokenArgs) answer {
			token, end, fault, ok := impl.TokenAt(x.s, x.at)
			return answer{[]any{token, end, fault}, ok}
		}},
		{"TokensOf", func(x tokenArgs) answer {
			list, fault, ok := impl.TokensOf(x.s)
			return answer{[]any{list, fault}, ok}
		}},
		{"IsToken", func(x tokenArgs) answer {
			return answer{nil, impl.IsToken(x.a)}
		}},
		{"JoinTokens", func(x tokenArgs) answer {
			text, ok := impl.JoinTokens(x.list)
			return answer{[]any{text}, ok}
		}},
		{"CountTokens", func(x tokenArgs) answer {
			counts, ok := impl.CountTokens(x.list)
			return answer{[]any{counts}, ok}
		}},
		{"SpacedText", func(x tokenArgs) answer {
			text, ok := impl.SpacedText(x.s)
			return answer{[]any{text}, ok}
		}},
		{"SameTokens", func(x tokenArgs) answer {
			same, ok := impl.SameTokens(x.s, x.t)
			return answer{[]any{same}, ok}
		}},
		{"CanTouch", func(x tokenArgs) answer {
			can, ok := impl.CanTouch(x.a, x.b)
			return answer{[]any{can}, ok}
		}},
	}
}

// checkAllTokens checks all functions of chapter 3 with the same arguments.
func checkAllTokens(t *testing.T, x tokenArgs) {
	t.Helper()
	for _, c := range tokenCalls() {
		name := func() string { return fmt.Sprintf("%s of %.200v", c.name, x) }
		first := withSpare(x.list, impl.Token{})
		second := withSpare(x.list, impl.Token{Kind: impl.TkSign, At: 1, Text: ";"})
		checkTotal(t, name, first, second, func(list []impl.Token) answer {
			y := x
			y.list = list
			return c.call(y)
		})
	}
}

// sampleSources are texts with tokens, with faults, with as many tokens and bytes as there may be, and with more.
func sampleSources() []string {
	return append(sampleTexts(),
		"a -> 2k # x", "qdisc a { class 1 rate 2k; }", "#", "a #", "\\\n", "\\", "a \\", "# \\\nb", "#\x00", "a1", "thirteenmarks", "007",
		"-", ">", "->", "-->", "rate", "twelveletter", "\u0161", "#\u0123", "a\u00e9", strings.Repeat(";", 600), strings.Repeat(";", 601),
		strings.Repeat("; ", 600)+"-", strings.Repeat("twelveletter;", 300), strings.Repeat(" ", 4000), strings.Repeat(" ", 4001),
		"#"+strings.Repeat("x", 4000), strings.Repeat("\\\n", 2000), strings.Repeat("-", 4001),
	)
}

func TestPromise33OfTextsWithTokens(t *testing.T) {
	for _, s := range sampleSources() {
		for _, at := range append([]int{len(s) - 1, len(s), len(s) + 1}, extremes...) {
			checkAllTokens(t, tokenArgs{s: s, at: at})
		}
		for _, other := range sampleSources() {
			checkAllTokens(t, tokenArgs{s: s, t: other})
		}
	}
}

func TestPromise33OfTokens(t *testing.T) {
	all := append(sampleTokens(), noTokens()...)
	// Some of the pairs are enough, if each token comes with some of every form.
	const step = 41
	for i, a := range all {
		for j := i % step; j < len(all); j += step {
			checkAllTokens(t, tokenArgs{a: a, b: all[j]})
		}
	}
}

func TestPromise33OfListsOfTokens(t *testing.T) {
	samples := sampleTokens()
	lists := [][]impl.Token{nil, {}, samples, append(sampleTokens(), noTokens()...), append(sampleTokens(), impl.Token{})}
	for _, x := range append(noTokens(), samples...) {
		lists = append(lists, []impl.Token{x}, append(sampleTokens(), x))
	}
	for _, x := range samples {
		for _, size := range []int{2, 599, 600, 601, 5000} {
			lists = append(lists, slices.Repeat([]impl.Token{x}, size))
		}
	}
	for _, list := range lists {
		checkAllTokens(t, tokenArgs{list: list})
	}
}
