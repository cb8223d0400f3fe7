package tests

import (
	"math/rand/v2"
	"regexp"
	"slices"
	"strconv"
	"strings"
	"testing"

	"loop.example/g00838/impl"
)

// Promise 7: the earliest fault is not behind any other. Faults, their names and their texts.

func TestKindsOfFaults(t *testing.T) {
	for want, kind := range []int{impl.ErNone, impl.ErByte, impl.ErToken, impl.ErNumber, impl.ErDepth, impl.ErCount, impl.ErEnd, impl.ErName} {
		if kind != want {
			t.Errorf("%s is %d", faultNames[want], kind)
		}
	}
	if impl.MaxText != 6000 {
		t.Error(impl.MaxText)
	}
}

func TestIsFault(t *testing.T) {
	for _, f := range sampleFaults() {
		if !impl.IsFault(f) {
			t.Errorf("IsFault(%v) = false", f)
		}
	}
	for _, f := range brokenFaults() {
		if impl.IsFault(f) {
			t.Errorf("IsFault(%v) = true", f)
		}
	}
	for _, kind := range faultExtremes {
		for _, at := range faultExtremes {
			if is := impl.IsFault(faultAt(kind, at)); is != (isIn(kind, 1, 7) && isIn(at, 0, 6000)) {
				t.Errorf("IsFault of %d, %d = %v", kind, at, is)
			}
		}
	}
}

func TestKindName(t *testing.T) {
	for kind, want := range faultNames {
		if name, ok := impl.KindName(kind); name != want || !ok {
			t.Errorf("KindName(%d) = %q, %v", kind, name, ok)
		}
	}
	for _, kind := range faultExtremes {
		if name, ok := impl.KindName(kind); ok != isIn(kind, 0, 7) || !ok && name != "" {
			t.Errorf("KindName(%d) = %q, %v", kind, name, ok)
		}
	}
}

func TestKindNamed(t *testing.T) {
	for want, name := range faultNames {
		if kind, ok := impl.KindNamed(name); kind != want || !ok {
			t.Errorf("KindNamed(%q) = %d, %v", name, kind, ok)
		}
		for _, s := range []string{
			name + " ", " " + name, name + "\n", name + "\x00", name + "s", name[1:], name[:len(name)-1],
			strings.ToUpper(name), strings.ToUpper(name[:1]) + name[1:], name + name, name + " at 0",
		} {
			if kind, ok := impl.KindNamed(s); kind != 0 || ok {
				t.Errorf("KindNamed(%q) = %d, %v", s, kind, ok)
			}
		}
	}
	for _, s := range append(sampleTexts(), "0", "1", "7", "ErByte", "key", "sign", "fault", strings.Repeat("byte", 2000)) {
		if kind, ok := impl.KindNamed(s); kind != 0 || ok {
			t.Errorf("KindNamed(%.40q) = %d, %v", s, kind, ok)
		}
	}
}

// slowEarliest looks at all faults for those that no other one is before.
func slowEarliest(l []impl.Fault) impl.Fault {
	before := func(a, b impl.Fault) bool { return a.At < b.At || a.At == b.At && a.Kind < b.Kind }
	for _, f := range l {
		if !slices.ContainsFunc(l, func(g impl.Fault) bool { return before(g, f) }) {
			return f
		}
	}
	return impl.Fault{}
}

// checkList checks what is said of a list of valid faults that is neither empty nor too long.
func checkList(t *testing.T, l []impl.Fault) {
	t.Helper()
	earliest, ok := impl.EarliestFault(l)
	if want := slowEarliest(l); earliest != want || !ok {
		t.Fatalf("EarliestFault(%v) = %v, %v and not %v", l, earliest, ok, want)
	}
	for _, f := range l {
		if earliest.At > f.At || earliest.At == f.At && earliest.Kind > f.Kind {
			t.Fatalf("EarliestFault(%v) = %v is behind %v", l, earliest, f)
		}
	}
	want := make([]int, 7)
	for _, f := range l {
		want[f.Kind-1]++
	}
	if counts, ok := impl.CountFaults(l); !slices.Equal(counts, want) || !ok {
		t.Fatalf("CountFaults(%v) = %v, %v and not %v", l, counts, ok, want)
	}
}

func TestPromise7TheEarliestFaultIsNotBehindAnyOther(t *testing.T) {
	for _, a := range sampleFaults() {
		for _, b := range sampleFaults() {
			checkList(t, []impl.Fault{a, b})
			checkList(t, []impl.Fault{a, b, faultAt(4, 2)})
			checkList(t, []impl.Fault{faultAt(4, 2), a, b})
		}
	}
	dice := rand.New(rand.NewPCG(7, 7))
	for size := 1; size <= 40; size++ {
		for _, last := range []int{0, 1, 5, 100, 6000} {
			l := make([]impl.Fault, size)
			for i := range l {
				l[i] = faultAt(1+dice.IntN(7), 6000-dice.IntN(last+1))
			}
			checkList(t, l)
		}
	}
}

func TestListsOfFaultsOfAllSizes(t *testing.T) {
	for _, f := range sampleFaults() {
		for _, size := range []int{1, 2, 39, 40} {
			checkList(t, slices.Repeat([]impl.Fault{f}, size)) // equal faults
			checkList(t, append(slices.Repeat([]impl.Fault{faultAt(7, 6000)}, size-1), f))
		}
		for _, size := range []int{41, 42, 1000} {
			checkNoList(t, slices.Repeat([]impl.Fault{f}, size))
		}
	}
	for _, l := range [][]impl.Fault{nil, {}, withSpare(nil, faultAt(1, 1))} {
		if f, ok := impl.EarliestFault(l); f != (impl.Fault{}) || ok {
			t.Errorf("EarliestFault of none = %v, %v", f, ok)
		}
		if counts, ok := impl.CountFaults(l); !slices.Equal(counts, make([]int, 7)) || !ok {
			t.Errorf("CountFaults of none = %v, %v", counts, ok)
		}
	}
}

// checkNoList checks that a list is refused.
func checkNoList(t *testing.T, l []impl.Fault) {
	t.Helper()
	if f, ok := impl.EarliestFault(l); f != (impl.Fault{}) || ok {
		t.Errorf("EarliestFault(%.90v) = %v, %v", l, f, ok)
	}
	if counts, ok := impl.CountFaults(l); counts != nil || ok {
		t.Errorf("CountFaults(%.90v) = %v, %v", l, counts, ok)
	}
}

func TestListsWithBrokenFaultsAreRefused(t *testing.T) {
	for _, broken := range brokenFaults() {
		for size := 1; size <= 40; size++ {
			for _, i := range []int{0, size / 2, size - 1} {
				l := slices.Repeat([]impl.Fault{faultAt(1, 0)}, size)
				l[i] = broken
				checkNoList(t, l)
			}
		}
	}
}

func TestEarliestFault(t *testing.T) {
	for _, c := range []struct {
		l        []impl.Fault
		earliest impl.Fault
	}{
		{[]impl.Fault{faultAt(3, 9)}, faultAt(3, 9)},
		{[]impl.Fault{faultAt(1, 9), faultAt(7, 8)}, faultAt(7, 8)}, // the offset decides first
		{[]impl.Fault{faultAt(7, 8), faultAt(1, 9)}, faultAt(7, 8)},
		{[]impl.Fault{faultAt(7, 8), faultAt(1, 8), faultAt(4, 8)}, faultAt(1, 8)}, // several kinds at one offset
		{[]impl.Fault{faultAt(4, 8), faultAt(6, 8), faultAt(5, 8)}, faultAt(4, 8)},
		{[]impl.Fault{faultAt(1, 9), faultAt(5, 8), faultAt(4, 8), faultAt(2, 10)}, faultAt(4, 8)},
		{[]impl.Fault{faultAt(1, 10), faultAt(1, 9)}, faultAt(1, 9)}, // by value, not as texts
		{[]impl.Fault{faultAt(2, 6000), faultAt(2, 0)}, faultAt(2, 0)},
		{withSpare([]impl.Fault{faultAt(5, 5)}, faultAt(1, 0)), faultAt(5, 5)},
	} {
		if f, ok := impl.EarliestFault(c.l); f != c.earliest || !ok {
			t.Errorf("EarliestFault(%v) = %v, %v", c.l, f, ok)
		}
	}
}

func TestCountFaults(t *testing.T) {
	for _, c := range []struct {
		l      []impl.Fault
		counts []int
	}{
		{nil, []int{0, 0, 0, 0, 0, 0, 0}},
		{[]impl.Fault{faultAt(1, 0)}, []int{1, 0, 0, 0, 0, 0, 0}},
		{[]impl.Fault{faultAt(7, 6000)}, []int{0, 0, 0, 0, 0, 0, 1}},
		{[]impl.Fault{faultAt(2, 5), faultAt(2, 5), faultAt(6, 5), faultAt(2, 1)}, []int{0, 3, 0, 0, 0, 1, 0}},
		{sampleFaults()[:40], []int{8, 8, 8, 8, 8, 0, 0}},
		{withSpare([]impl.Fault{faultAt(3, 5)}, faultAt(3, 5)), []int{0, 0, 1, 0, 0, 0, 0}},
	} {
		if counts, ok := impl.CountFaults(c.l); !slices.Equal(counts, c.counts) || !ok {
			t.Errorf("CountFaults(%v) = %v, %v", c.l, counts, ok)
		}
	}
}

func TestTextsOfFaultsAreReadBack(t *testing.T) {
	for kind := 1; kind <= 7; kind++ {
		for at := range 6001 {
			f := faultAt(kind, at)
			text, ok := impl.FaultText(f)
			if text != faultNames[kind]+" at "+strconv.Itoa(at) || !ok {
				t.Fatalf("FaultText(%v) = %q, %v", f, text, ok)
			}
			if back, ok := impl.ParseFault(text); back != f || !ok {
				t.Fatalf("ParseFault(%q) = %v, %v", text, back, ok)
			}
		}
	}
	for _, f := range brokenFaults() {
		if text, ok := impl.FaultText(f); text != "" || ok {
			t.Errorf("FaultText(%v) = %q, %v", f, text, ok)
		}
	}
}

var faultForm = regexp.MustCompile(`\A(byte|token|number|depth|count|end|name) at (0|[1-9][0-9]{0,3})\z`)

// slowFault reads a FaultText with an expression, which refuses numbers of more than four digits.
func slowFault(s string) (impl.Fault, bool) {
	parts := faultForm.FindStringSubmatch(s)
	if parts == nil {
		return impl.Fault{}, false
	}
	at, err := strconv.Atoi(parts[2])
	if err != nil || at > 6000 {
		return impl.Fault{}, false
	}
	return faultAt(slices.Index(faultNames, parts[1]), at), true
}

func checkParseFault(t *testing.T, s string) {
	t.Helper()
	want, okWant := slowFault(s)
	if f, ok := impl.ParseFault(s); f != want || ok != okWant {
		t.Fatalf("ParseFault(%.40q) = %v, %v and not %v, %v", s, f, ok, want, okWant)
	}
}

// malformedFaults are strings that are no FaultText.
func malformedFaults() []string {
	return []string{
		"", " ", " at ", "at", "3", "token", "token ", "token at", "token at ", " at 3", "at 3", "token 3", "token3", "tokenat3",
		"none at 0", "none at 3", "none at 6000", "none", // ErNone is no kind of a fault
		"token at 03", "token at 00", "token at 0003", "token at 000", "token at 06000",
		"token at +3", "token at -3", "token at -0", "token at +0", "token at - 3",
		"token  at 3", "token at  3", " token at 3", "token at 3 ", "token\tat\t3", "token at\t3", "token\nat 3", "token at\u00a03", "token at\n3",
		"token at 6001", "token at 6010", "token at 7000", "token at 9999", "token at 10000", "token at 60000", "token at 1000000000",
		"token at 4294967296", "token at 18446744073709551616", "token at 18446744073709551619", "token at 9223372036854775808", // 0 and 3 if they overflowed
		"token at 3\n", "token at 3x", "token at 3.0", "token at 3e0", "token at 3k", "token at 1k", "token at 0x3", "token at 3_0", "token at 3;", "token at 3\x00",
		"token at three", "token at x", "token at \u0663", "token at \uff13", "token at \xff", "token at 3 at 3", "token at token at 3", "token at at 3", "at at 3", " at  at 3",
		"Token at 3", "TOKEN at 3", "token At 3", "token AT 3", "tokens at 3", "toke at 3", "oken at 3", "word at 3", "2 at 3", "key at 3", "ErToken at 3", "token,at,3", "token@3",
		"token at 3token at 3", "byte at 3 token at 3", "byte token at 3", "token at 3 byte at 3",
		strings.Repeat(" at ", 250000), "token at " + strings.Repeat("0", 1000000), "token at " + strings.Repeat("9", 1000000), strings.Repeat("token", 200000) + " at 3", "token at 3" + strings.Repeat(" ", 1000000),
	}
}

func TestParseFault(t *testing.T) {
	for _, c := range []struct {
		s     string
		fault impl.Fault
	}{
		{"token at 3", faultAt(2, 3)}, {"byte at 0", faultAt(1, 0)}, {"name at 6000", faultAt(7, 6000)}, {"number at 10", faultAt(3, 10)},
		{"depth at 100", faultAt(4, 100)}, {"count at 5999", faultAt(5, 5999)}, {"end at 1", faultAt(6, 1)},
	} {
		if f, ok := impl.ParseFault(c.s); f != c.fault || !ok {
			t.Errorf("ParseFault(%q) = %v, %v", c.s, f, ok)
		}
	}
	for _, s := range malformedFaults() {
		if f, ok := impl.ParseFault(s); f != (impl.Fault{}) || ok {
			t.Errorf("ParseFault(%.40q) = %v, %v", s, f, ok)
		}
	}
}

func TestChangedTextsOfFaultsAreReadOrRefused(t *testing.T) {
	for _, name := range faultNames {
		for _, at := range []string{"0", "3", "10", "6000", "599"} {
			s := name + " at " + at
			checkParseFault(t, s)
			for i := range len(s) + 1 {
				checkParseFault(t, s[:i])
				checkParseFault(t, s[i:])
				for b := range 256 {
					letter := string([]byte{byte(b)})
					checkParseFault(t, s[:i]+letter+s[i:])
					checkParseFault(t, s[:i]+letter+s[min(i+1, len(s)):])
				}
			}
		}
	}
	everyString("0169 -", 5, func(s string) { checkParseFault(t, "end at "+s) })
	everyString("at 0", 6, func(s string) { checkParseFault(t, "end"+s) })
	for _, s := range slices.Concat(sampleTexts(), textsWithLines(), tooLongLines()) {
		checkParseFault(t, s)
	}
}
