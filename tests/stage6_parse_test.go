package tests

import (
	"math/rand/v2"
	"slices"
	"strings"
	"testing"

	"loop.example/g00838/impl"
)

// Promise 6: a text has a configuration or one fault in it, and the tokens before it are right.

// checkParser compares what all functions that read a whole text return with what the slow reading finds.
func checkParser(t *testing.T, s string) slowReading {
	t.Helper()
	want := slowRead(s, "TEXT")
	var config, valid impl.Config
	if want.fault.Kind == 0 {
		config = slowConfig(want.tokens)
	}
	isValid := want.fault.Kind == 0 && firstBroken(config) == 0
	if isValid {
		valid = config
	}
	if c, fault, ok := impl.ParseRaw(s); !sameConfig(c, config) || fault != want.fault || !ok {
		t.Fatalf("ParseRaw(%q) = %v, %v, %v and not %v, %v", s, c, fault, ok, config, want.fault)
	}
	if c, ok := impl.ParseConfig(s); !sameConfig(c, valid) || ok != isValid {
		t.Fatalf("ParseConfig(%q) = %v, %v", s, c, ok)
	}
	if fault, ok := impl.FaultOf(s); fault != want.fault || !ok {
		t.Fatalf("FaultOf(%q) = %v, %v and not %v", s, fault, ok, want.fault)
	}
	if n, ok := impl.RightTokens(s); n != want.right || ok != want.hasTokens {
		t.Fatalf("RightTokens(%q) = %d, %v and not %d", s, n, ok, want.right)
	}
	if l, ok := impl.NextTexts(s); !slices.Equal(l, want.next) || ok != (want.fault.Kind == impl.ErEnd) {
		t.Fatalf("NextTexts(%q) = %v, %v and not %v", s, l, ok, want.next)
	}
	deepest := want.deepest
	if want.fault.Kind != 0 {
		deepest = 0
	}
	if n, ok := impl.DeepestClass(s); n != deepest || ok != (want.fault.Kind == 0) {
		t.Fatalf("DeepestClass(%q) = %d, %v and not %d", s, n, ok, deepest)
	}
	return want
}

// checkPart compares what ParseFilter and ParseLeaf return with what the slow reading finds. The one part is put into a text for its numbers.
func checkPart(t *testing.T, s string) {
	t.Helper()
	asFilter, asLeaf := slowRead(s, "FILTER"), slowRead(s, "LEAF")
	var filter impl.Filter
	var leaf impl.Class
	if asFilter.fault.Kind == 0 {
		filter = slowConfig(slowRead("qdisc a{"+s+"\n}", "TEXT").tokens).Filters[0]
	}
	if asLeaf.fault.Kind == 0 {
		leaf = slowConfig(slowRead("qdisc a{"+s+"\n}", "TEXT").tokens).Classes[0]
		leaf.Parent = 77
	}
	if x, fault, ok := impl.ParseFilter(s); x != filter || fault != asFilter.fault || !ok {
		t.Fatalf("ParseFilter(%q) = %v, %v, %v and not %v, %v", s, x, fault, ok, filter, asFilter.fault)
	}
	if x, fault, ok := impl.ParseLeaf(s, 77); x != leaf || fault != asLeaf.fault || !ok {
		t.Fatalf("ParseLeaf(%q, 77) = %v, %v, %v and not %v, %v", s, x, fault, ok, leaf, asLeaf.fault)
	}
}

// textsOf returns the texts of some tokens.
func textsOf(tokens []impl.Token) []string {
	var texts []string
	for _, x := range tokens {
		texts = append(texts, x.Text)
	}
	return texts
}

// tokenTexts returns the texts of the tokens of a text that has no fault of these.
func tokenTexts(s string) []string {
	tokens, _ := slowTokensOf(s)
	return textsOf(tokens)
}

func TestPromise6WholeTexts(t *testing.T) {
	for _, s := range rawTexts() {
		if got := checkParser(t, s); got.fault.Kind != 0 {
			t.Errorf("%q has the fault %v", s, got.fault)
		}
	}
	for _, s := range otherTexts() {
		if got := checkParser(t, s); got.fault.Kind == 0 {
			t.Errorf("%q has no fault", s)
		}
	}
	for _, s := range append(sampleTexts(), sampleSources()...) {
		if len(s) <= 4000 {
			checkParser(t, s)
			checkPart(t, s)
		}
	}
}

func TestPromise6ShortTexts(t *testing.T) {
	for _, a := range symbols {
		for _, b := range symbols {
			for _, c := range symbols {
				checkParser(t, "qdisc zz "+sampleOf(a)+" "+sampleOf(b)+" "+sampleOf(c))
			}
			checkParser(t, sampleOf(a)+" "+sampleOf(b))
		}
	}
}

// checkGoingOn checks all beginnings of a text, each one as it is and with each symbol and a symbol and a token behind it.
func checkGoingOn(t *testing.T, s string, check func(s string)) {
	t.Helper()
	texts := tokenTexts(s)
	for n := range len(texts) + 1 {
		beginning := strings.Join(texts[:n], " ")
		check(beginning)
		for i, symbol := range symbols {
			check(beginning + " " + sampleOf(symbol))
			check(beginning + " " + sampleOf(symbol) + " " + sampleOf(symbols[(i+n)%len(symbols)]) + "\n")
		}
	}
}

func TestPromise6AllThatCanFollowABeginning(t *testing.T) {
	for _, s := range []string{
		richSource, "qdisc a default 5 { }", rawOf(nestedText(8, "")),
	} {
		checkGoingOn(t, s, func(s string) { checkParser(t, s) })
	}
	for _, s := range []string{filtersText(1), leavesText(1), nestedText(1, leavesText(1))} {
		checkGoingOn(t, s, func(s string) { checkPart(t, s) })
	}
}

// spoiled returns a text with some of its tokens put elsewhere, left out, doubled or changed, or with another part in it.
func spoiled(dice *rand.Rand, texts []string) string {
	texts = slices.Clone(texts)
	for range 1 + dice.IntN(3) {
		i, k := dice.IntN(len(texts)), dice.IntN(len(texts))
		switch dice.IntN(7) {
		case 0:
			texts[i] = sampleOf(symbols[dice.IntN(len(symbols))])
		case 1:
			texts[i], texts[k] = texts[k], texts[i]
		case 2:
			texts = slices.Insert(texts, i, texts[k])
		case 3:
			texts = append(slices.Delete(texts, i, i+1), "}")
		case 4:
			texts[i] = []string{"01", "a1", "-", "0x10000", "\\", "\x00"}[dice.IntN(6)]
		default:
			for i+1 < len(texts) && !slices.Contains([]string{"{", "}", ";"}, texts[i]) {
				i++
			}
			part := []string{leavesText(1), leavesText(3), nestedText(1, ""), nestedText(2, leavesText(1)), filtersText(1)}[dice.IntN(5)]
			texts = slices.Insert(texts, i+1, tokenTexts(part)...)
		}
	}
	if s := strings.Join(texts, []string{"\n", " # ; }\n"}[dice.IntN(2)]); len(s) <= 4000 {
		return s
	}
	return strings.Join(texts, " ")
}

func TestPromise6SpoiledTexts(t *testing.T) {
	found := make([]int, 8)
	for seed := range 600 {
		dice := diceFor(seed)
		s := sourceOf(randomConfig(seed), plainText)
		if seed%3 == 0 {
			s = rawTexts()[dice.IntN(13)]
		}
		for range 3 {
			found[checkParser(t, spoiled(dice, tokenTexts(s))).fault.Kind]++
		}
	}
	if slices.Contains(found, 0) {
		t.Errorf("the texts have these kinds of faults: %v", found)
	}
}

// checkTokensAreRight checks what promise 6 says of a text, by means of the program alone.
func checkTokensAreRight(t *testing.T, s string) {
	t.Helper()
	config, fault, ok := impl.ParseRaw(s)
	if !ok || fault.Kind < 0 || fault.Kind > 7 || fault.At < 0 || fault.At > len(s) || fault.Kind != 0 && !isZeroConfig(config) {
		t.Fatalf("ParseRaw(%q) = %v, %v, %v", s, config, fault, ok)
	}
	tokens, first, _ := impl.TokensOf(s)
	right, isRight := impl.RightTokens(s)
	if first.Kind != 0 {
		if fault != first || isRight {
			t.Fatalf("%q has the faults %v and %v", s, fault, first)
		}
		return
	}
	place := len(s)
	if right < len(tokens) {
		place = tokens[right].At
	}
	if !isRight || right > len(tokens) || fault.Kind != 0 && fault.At != place || fault.Kind == impl.ErEnd && right < len(tokens) {
		t.Fatalf("%q has the fault %v behind %d of %d tokens", s, fault, right, len(tokens))
	}
	for i, x := range tokens[:right] {
		if l, ok := impl.NextTexts(s[:x.At]); !slices.Contains(l, symbolOf(x)) || !ok {
			t.Fatalf("behind %q can be %v, %v, and not %v", s[:x.At], l, ok, x)
		}
		if n, ok := impl.RightTokens(s[:x.At]); n != i || !ok {
			t.Fatalf("RightTokens(%q) = %d, %v and not %d", s[:x.At], n, ok, i)
		}
	}
	if l, _ := impl.NextTexts(s[:place]); right < len(tokens) && slices.Contains(l, symbolOf(tokens[right])) {
		t.Fatalf("behind %q can be %v, and thus %v", s[:place], l, tokens[right])
	}
	checkCanBeEnded(t, textsOf(tokens[:right]))
}

// checkCanBeEnded checks that tokens are the beginning of a text without a fault.
func checkCanBeEnded(t *testing.T, texts []string) {
	t.Helper()
	s := strings.Join(texts, " ")
	for range 40 {
		fault, ok := impl.FaultOf(s)
		if fault.Kind == 0 && ok {
			return
		}
		l, okNext := impl.NextTexts(s)
		if fault != (impl.Fault{Kind: impl.ErEnd, At: len(s)}) || !ok || len(l) == 0 || !okNext {
			break
		}
		next := l[0]
		for _, symbol := range []string{"limit", "{", "}"} {
			if slices.Contains(l, symbol) {
				next = symbol
			}
		}
		s += " " + sampleOf(next)
	}
	t.Fatalf("%q cannot be the beginning of a text", s)
}

func TestPromise6TokensBeforeTheFaultAreRight(t *testing.T) {
	for _, s := range slices.Concat(rawTexts(), otherTexts(), sampleTexts(), sampleSources()) {
		if len(s) <= 4000 {
			checkTokensAreRight(t, s)
		}
	}
	for seed := range 60 {
		dice := diceFor(1000 + seed)
		checkTokensAreRight(t, spoiled(dice, tokenTexts(sourceOf(randomConfig(seed), plainText))))
		checkTokensAreRight(t, spoiled(dice, tokenTexts(richSource)))
	}
}

// numberWriter returns a function that writes numbers in any of their forms.
func numberWriter(dice *rand.Rand) func(n int) string {
	return func(n int) string {
		forms, _ := impl.FormsOf(n)
		if hex, ok := impl.HexText(n); ok {
			forms = append(forms, hex)
		}
		return forms[dice.IntN(len(forms))]
	}
}

func TestPromise6TextsOfConfigsHaveTheConfig(t *testing.T) {
	configs := namedConfigs()
	for seed := range 300 {
		configs = append(configs, randomConfig(seed))
	}
	for i, c := range configs {
		for _, s := range []string{sourceOf(c, plainText), sourceOf(c, numberWriter(diceFor(i)))} {
			if len(s) > 4000 {
				t.Fatalf("%q has %d bytes", s, len(s))
			}
			if d, fault, ok := impl.ParseRaw(s); !sameConfig(d, c) || fault != (impl.Fault{}) || !ok {
				t.Fatalf("ParseRaw(%q) = %v, %v, %v", s, d, fault, ok)
			}
			if d, ok := impl.ParseConfig(s); !sameConfig(d, c) || !ok {
				t.Fatalf("ParseConfig(%q) = %v, %v", s, d, ok)
			}
			checkParser(t, s)
		}
	}
}

func TestARichText(t *testing.T) {
	want := impl.Config{Name: "eth", Default: 7, Classes: []impl.Class{
		{Id: 1, Rate: 100000, Ceil: 100000, Burst: 2000, Cburst: 1000000},
		{Id: 2, Rate: 1, Ceil: 1, Burst: 1, Cburst: 1, Prio: 1},
		{Id: 3, Parent: 5, Rate: 4, Ceil: 5, Burst: 6, Cburst: 7, Prio: 8, Limit: 9},
		{Id: 5, Parent: 1, Rate: 6, Ceil: 7, Burst: 8, Cburst: 9, Prio: 10},
		{Id: 7, Parent: 1, Rate: 2000, Ceil: 255, Burst: 1500, Cburst: 1501, Prio: 7, Limit: 60},
		{Id: 9, Parent: 1, Rate: 1, Ceil: 2, Burst: 3, Cburst: 4, Prio: 5},
	}, Filters: []impl.Filter{
		{Prio: 7, Field: 3},
		{Prio: 8, Field: 1, Value: 1, Mask: 2, Target: 3},
		{Prio: 9, Field: 0, Value: 80, Mask: 65535, Target: 7},
		{Prio: 9, Field: 2, Value: 5, Mask: 6, Target: 7},
	}}
	if c, fault, ok := impl.ParseRaw(richSource); !sameConfig(c, want) || fault != (impl.Fault{}) || !ok {
		t.Error(c, fault, ok)
	}
	if c, ok := impl.ParseConfig(richSource); !isZeroConfig(c) || ok {
		t.Error("it has two tops, but is valid", c)
	}
	if n, ok := impl.DeepestClass(richSource); n != 3 || !ok {
		t.Error("deepest", n, ok)
	}
	if n, ok := impl.RightTokens(richSource); n != len(tokenTexts(richSource)) || !ok {
		t.Error("right", n, ok)
	}
}
