package tests

import (
	"slices"
	"strings"
	"testing"
	"unsafe"

	"loop.example/g00838/impl"
)

// Promise 7: places and offsets are read back.

// checkPlaces checks the places of all offsets of a text, and what LineOf says of other numbers.
func checkPlaces(t *testing.T, text string) {
	t.Helper()
	for at, want := range slowPlaces(text) {
		line, column, ok := impl.LineOf(text, at)
		if line != want.line || column != want.column || !ok {
			t.Fatalf("LineOf(%.40q, %d) = %d, %d, %v and not %v", text, at, line, column, ok, want)
		}
		if back, ok := impl.PlaceOf(text, line, column); back != at || !ok {
			t.Fatalf("PlaceOf(%.40q, %d, %d) = %d, %v and not %d", text, line, column, back, ok, at)
		}
	}
	for _, at := range slices.Concat(faultExtremes, []int{len(text) + 1, len(text) + 2}) {
		line, column, ok := impl.LineOf(text, at)
		if isIn(at, 0, len(text)) != ok || !ok && (line != 0 || column != 0) {
			t.Fatalf("LineOf(%.40q, %d) = %d, %d, %v", text, at, line, column, ok)
		}
	}
}

func TestPromise7PlacesAndOffsetsAreReadBack(t *testing.T) {
	for _, text := range textsWithLines() {
		checkPlaces(t, text)
	}
	everyString("a\n", 9, func(text string) { checkPlaces(t, text) })
}

// checkAllPlaces checks what PlaceOf returns for all places of a text, and for all others that are near.
func checkAllPlaces(t *testing.T, text string) {
	t.Helper()
	offsets := map[place]int{}
	for at, p := range slowPlaces(text) {
		offsets[p] = at
	}
	for line := -1; line <= strings.Count(text, "\n")+3; line++ {
		for column := -1; column <= len(text)+3; column++ {
			want, okWant := offsets[place{line, column}]
			if at, ok := impl.PlaceOf(text, line, column); at != want || ok != okWant {
				t.Fatalf("PlaceOf(%.40q, %d, %d) = %d, %v and not %d, %v", text, line, column, at, ok, want, okWant)
			}
		}
	}
}

func TestPromise7OtherPlacesAreRefused(t *testing.T) {
	for _, text := range shortLines() {
		checkAllPlaces(t, text)
	}
	everyString("a\n", 7, func(text string) { checkAllPlaces(t, text) })
	for _, text := range textsWithLines() {
		places := slowPlaces(text)
		end := places[len(text)]
		for _, n := range slices.Concat(faultExtremes, []int{end.line, end.line + 1, end.column, end.column + 1}) {
			for _, p := range []place{{n, 1}, {1, n}, {n, end.column}, {end.line, n}, {n, n}} {
				at, ok := impl.PlaceOf(text, p.line, p.column)
				if ok != slices.Contains(places, p) || ok && places[at] != p || !ok && at != 0 {
					t.Fatalf("PlaceOf(%.40q, %d, %d) = %d, %v", text, p.line, p.column, at, ok)
				}
			}
		}
	}
}

func TestLineOf(t *testing.T) {
	long := strings.Repeat("a", 5999)
	for _, c := range []struct {
		text             string
		at, line, column int
		ok               bool
	}{
		{"ab\nc\n", 0, 1, 1, true},
		{"ab\nc\n", 1, 1, 2, true},
		{"ab\nc\n", 2, 1, 3, true}, // a newline
		{"ab\nc\n", 3, 2, 1, true},
		{"ab\nc\n", 4, 2, 2, true},
		{"ab\nc\n", 5, 3, 1, true}, // the length of the text
		{"ab\nc\n", 6, 0, 0, false},
		{"ab\nc\n", -1, 0, 0, false},
		{"ab\nc", 4, 2, 2, true},
		{"ab\nc", 5, 0, 0, false},
		{"", 0, 1, 1, true},
		{"", 1, 0, 0, false},
		{"", -1, 0, 0, false},
		{"\n", 0, 1, 1, true},
		{"\n", 1, 2, 1, true},
		{"\n", 2, 0, 0, false},
		{"\n\n\n", 2, 3, 1, true},
		{"\n\n\n", 3, 4, 1, true},
		{"\u0661\n", 2, 1, 3, true}, // columns are counted in bytes
		{"a\r\nb", 2, 1, 3, true},
		{long + "a", 6000, 1, 6001, true},
		{long + "\n", 5999, 1, 6000, true},
		{long + "\n", 6000, 2, 1, true},
		{strings.Repeat("\n", 6000), 6000, 6001, 1, true},
		{long + "a", 6001, 0, 0, false},
		{long + "aa", 0, 0, 0, false},
		{long + "\n\n", 6000, 0, 0, false},
		{strings.Repeat("\n", 6001), 1, 0, 0, false},
	} {
		if line, column, ok := impl.LineOf(c.text, c.at); line != c.line || column != c.column || ok != c.ok {
			t.Errorf("LineOf(%.40q, %d) = %d, %d, %v", c.text, c.at, line, column, ok)
		}
	}
}

func TestPlaceOf(t *testing.T) {
	long := strings.Repeat("a", 5999)
	for _, c := range []struct {
		text             string
		line, column, at int
		ok               bool
	}{
		{"ab\nc\n", 1, 1, 0, true},
		{"ab\nc\n", 1, 3, 2, true}, // the newline is the last column
		{"ab\nc\n", 1, 4, 0, false},
		{"ab\nc\n", 2, 1, 3, true},
		{"ab\nc\n", 2, 2, 4, true},
		{"ab\nc\n", 2, 3, 0, false},
		{"ab\nc\n", 3, 1, 5, true},
		{"ab\nc\n", 3, 2, 0, false},
		{"ab\nc\n", 4, 1, 0, false},
		{"ab\nc\n", 1, 0, 0, false},
		{"ab\nc\n", 2, 0, 0, false},
		{"ab\nc\n", 0, 1, 0, false},
		{"ab\nc\n", -1, 1, 0, false},
		{"ab\nc\n", 1, -1, 0, false},
		{"ab\nc", 2, 2, 4, true},
		{"ab\nc", 2, 3, 0, false},
		{"ab\nc", 3, 1, 0, false},
		{"", 1, 1, 0, true},
		{"", 1, 2, 0, false},
		{"", 2, 1, 0, false},
		{"", 0, 0, 0, false},
		{"\n", 1, 1, 0, true},
		{"\n", 2, 1, 1, true},
		{"\n", 1, 2, 0, false},
		{"\n", 2, 2, 0, false},
		{"\n", 3, 1, 0, false},
		{long + "a", 1, 6001, 6000, true},
		{long + "a", 1, 6002, 0, false},
		{long + "\n", 1, 6000, 5999, true},
		{long + "\n", 1, 6001, 0, false},
		{long + "\n", 2, 1, 6000, true},
		{strings.Repeat("\n", 6000), 6001, 1, 6000, true},
		{strings.Repeat("\n", 6000), 6002, 1, 0, false},
		{long + "aa", 1, 1, 0, false},
		{long + "\n\n", 2, 1, 0, false},
		{strings.Repeat("\n", 6001), 1, 1, 0, false},
	} {
		if at, ok := impl.PlaceOf(c.text, c.line, c.column); at != c.at || ok != c.ok {
			t.Errorf("PlaceOf(%.40q, %d, %d) = %d, %v", c.text, c.line, c.column, at, ok)
		}
	}
}

func TestLineText(t *testing.T) {
	for _, text := range append(textsWithLines(), everyStringOf("a\n", 7)...) {
		lines := slowLines(text)
		for i, want := range lines {
			if line, ok := impl.LineText(text, i+1); line != want || !ok {
				t.Fatalf("LineText(%.40q, %d) = %.40q, %v", text, i+1, line, ok)
			}
		}
		for _, n := range slices.Concat(faultExtremes, []int{len(lines) + 1, len(lines) + 2}) {
			if line, ok := impl.LineText(text, n); ok != isIn(n, 1, len(lines)) || !ok && line != "" {
				t.Fatalf("LineText(%.40q, %d) = %.40q, %v", text, n, line, ok)
			}
		}
	}
	for _, text := range tooLongLines() {
		for _, n := range []int{0, 1, 2, 6001} {
			if line, ok := impl.LineText(text, n); line != "" || ok {
				t.Errorf("LineText of %d bytes, %d = %.40q, %v", len(text), n, line, ok)
			}
		}
	}
}

// isPartOf reports whether a string lies in the memory of another one.
func isPartOf(part, text string) bool {
	at := uintptr(unsafe.Pointer(unsafe.StringData(part)))
	start := uintptr(unsafe.Pointer(unsafe.StringData(text)))
	return part != "" && text != "" && start <= at && at < start+uintptr(len(text))
}

func TestPromise33OfLinesThatAreNewMemory(t *testing.T) {
	if text := strings.Clone("ab\nc\n"); !isPartOf(text[:2], text) || isPartOf(strings.Clone(text), text) {
		t.Fatal("the check itself is wrong")
	}
	for _, text := range shortLines() {
		for at, p := range slowPlaces(text) {
			if line, _ := impl.LineText(text, p.line); isPartOf(line, text) {
				t.Fatalf("LineText(%.40q, %d) is a part of the text", text, p.line)
			}
			if mark, _ := impl.MarkedLine(text, faultAt(1, at)); isPartOf(mark, text) {
				t.Fatalf("MarkedLine(%.40q, %d) is a part of the text", text, at)
			}
		}
	}
}

type markCase struct {
	text  string
	fault impl.Fault
	mark  string
	ok    bool
}

func checkMarks(t *testing.T, cases []markCase) {
	t.Helper()
	for _, c := range cases {
		if mark, ok := impl.MarkedLine(c.text, c.fault); mark != c.mark || ok != c.ok {
			t.Errorf("MarkedLine(%.40q, %v) = %.40q, %v", c.text, c.fault, mark, ok)
		}
	}
}

func TestMarkedLine(t *testing.T) {
	long := strings.Repeat("a", 6000)
	checkMarks(t, []markCase{
		{"ab\nc\n", faultAt(1, 0), "ab\n^\n", true}, // under the first column
		{"ab\nc\n", faultAt(1, 1), "ab\n ^\n", true},
		{"ab\nc\n", faultAt(2, 2), "ab\n  ^\n", true}, // under the newline
		{"ab\nc\n", faultAt(3, 3), "c\n^\n", true},
		{"ab\nc\n", faultAt(7, 4), "c\n ^\n", true},
		{"ab\nc\n", faultAt(6, 5), "\n^\n", true},
		{"ab\nc\n", faultAt(6, 6), "", false}, // one behind the length
		{"ab\nc", faultAt(6, 4), "c\n ^\n", true},
		{"ab\nc", faultAt(6, 5), "", false},
		{"", faultAt(6, 0), "\n^\n", true},
		{"", faultAt(6, 1), "", false},
		{"\n", faultAt(6, 0), "\n^\n", true},
		{"\n", faultAt(6, 1), "\n^\n", true},
		{"\n\n\n", faultAt(6, 3), "\n^\n", true},
		{"\n\n\n", faultAt(6, 4), "", false},
		{"\ta\n", faultAt(2, 1), "\ta\n ^\n", true}, // a tab is one column
		{"\u0661\n", faultAt(2, 1), "\u0661\n ^\n", true},
		{"\u0661\n", faultAt(2, 2), "\u0661\n  ^\n", true},
		{"a\r\n", faultAt(2, 2), "a\r\n  ^\n", true},
		{long, faultAt(4, 0), long + "\n^\n", true},
		{long, faultAt(4, 6000), long + "\n" + strings.Repeat(" ", 6000) + "^\n", true},
		{strings.Repeat("\n", 6000), faultAt(5, 6000), "\n^\n", true},
		{long[1:], faultAt(4, 6000), "", false},
		{long + "a", faultAt(4, 0), "", false},
		{long + "\n", faultAt(4, 6000), "", false},
	})
}

func TestMarksOfAllOffsets(t *testing.T) {
	for _, text := range append(textsWithLines(), everyStringOf("a\n", 6)...) {
		lines := slowLines(text)
		for at, p := range slowPlaces(text) {
			want := lines[p.line-1] + "\n" + strings.Repeat(" ", p.column-1) + "^\n"
			checkMarks(t, []markCase{{text, faultAt(1+at%7, at), want, true}})
		}
		checkMarks(t, []markCase{{text, faultAt(1, len(text)+1), "", false}, {text, faultAt(7, len(text)+2), "", false}})
		for _, f := range brokenFaults() {
			checkMarks(t, []markCase{{text, f, "", false}})
		}
	}
	for _, text := range tooLongLines() {
		for _, f := range sampleFaults() {
			checkMarks(t, []markCase{{text, f, "", false}})
		}
	}
}

func TestFaultFits(t *testing.T) {
	for _, text := range textsWithLines() {
		for _, n := range slices.Concat(faultExtremes, []int{len(text) - 1, len(text), len(text) + 1}) {
			for _, kind := range []int{-1, 0, 1, 4, 7, 8} {
				okWant := isIn(kind, 1, 7) && isIn(n, 0, 6000)
				fits, ok := impl.FaultFits(faultAt(kind, n), text)
				if fits != (okWant && n <= len(text)) || ok != okWant {
					t.Fatalf("FaultFits of %d, %d in %d bytes = %v, %v", kind, n, len(text), fits, ok)
				}
			}
		}
	}
	for _, text := range tooLongLines() {
		for _, f := range sampleFaults() {
			if fits, ok := impl.FaultFits(f, text); fits || ok {
				t.Errorf("FaultFits of %v in %d bytes = %v, %v", f, len(text), fits, ok)
			}
		}
	}
}
