package tests

import (
	"slices"
	"strings"

	"loop.example/g00838/impl"
)

func faultAt(kind, at int) impl.Fault {
	return impl.Fault{Kind: kind, At: at}
}

// faultNames are the names of the kinds 0 to 7.
var faultNames = []string{"none", "byte", "token", "number", "depth", "count", "end", "name"}

// faultExtremes are numbers around the limits of chapter 7 and of int itself.
var faultExtremes = slices.Concat(extremes, []int{6, 9, 10, 39, 40, 41, 99, 5999, 6000, 6001, 6002, 1<<32 + 1, 1<<32 + 7})

// sampleFaults are valid faults of all kinds.
func sampleFaults() []impl.Fault {
	var l []impl.Fault
	for kind := 1; kind <= 7; kind++ {
		for _, at := range []int{0, 1, 2, 9, 10, 4000, 5999, 6000} {
			l = append(l, faultAt(kind, at))
		}
	}
	return l
}

// brokenFaults are faults that are not valid.
func brokenFaults() []impl.Fault {
	l := []impl.Fault{{}, faultAt(0, 5), faultAt(0, 6000), faultAt(0, 6001), faultAt(8, 0), faultAt(8, 6001), faultAt(-1, -1)}
	for _, n := range []int{-1 << 63, -1<<63 + 1, -1, 1 << 32, 1<<32 + 1, 1<<63 - 1} {
		l = append(l, faultAt(n, 0), faultAt(n, 6000), faultAt(1, n), faultAt(7, n), faultAt(n, n))
	}
	for _, kind := range []int{0, 1, 7, 8} {
		l = append(l, faultAt(kind, -1), faultAt(kind, 6001))
	}
	return l
}

// shortLines are short texts with lines of many forms.
func shortLines() []string {
	return []string{
		"", "\n", "\n\n", "\n\n\n\n\n\n\n", "a", "ab", "a\n", "\na", "\na\n", "ab\nc", "ab\nc\n", "ab\n\nc", "ab\n\nc\n\n", "\n\nab",
		" ", "^", "\t\n\t^", "a\r\nb\r", "a\\\nb", "# a\nb", "\x00\n\x00", "\xff\n\xfe\n", "\u0661\n\u0662\u0663", "a\u2028b\u0085c\v\f",
		"none at 0\nbyte at 1\n", richSource,
	}
}

// longLines are texts of chapter 7 that are longer than those of chapter 1, most of them as long as they may be.
func longLines() []string {
	return []string{
		strings.Repeat("a", 4001), strings.Repeat("a", 5999), strings.Repeat("a", 6000), strings.Repeat("\n", 5999), strings.Repeat("\n", 6000),
		strings.Repeat("a", 5999) + "\n", "\n" + strings.Repeat("a", 5999), strings.Repeat("ab\n", 2000),
		strings.Repeat("a", 3000) + "\n" + strings.Repeat("\xff", 2999), string(noise(6000, 7)),
	}
}

// textsWithLines are texts of chapter 7 of all lengths.
func textsWithLines() []string {
	return slices.Concat(shortLines(), longLines())
}

// tooLongLines are strings that are too long to be texts of chapter 7.
func tooLongLines() []string {
	return []string{
		strings.Repeat("a", 6001), strings.Repeat("\n", 6001), strings.Repeat("a", 6000) + "\n", "\n" + strings.Repeat("a", 6000),
		strings.Repeat("ab\n", 2001), strings.Repeat("a\n", 500000),
	}
}

// place is a line and a column.
type place struct {
	line, column int
}

// slowPlaces counts the places of all offsets of a text, byte by byte.
func slowPlaces(text string) []place {
	places := []place{{1, 1}}
	for i := range len(text) {
		p := places[i]
		p.column++
		if text[i] == '\n' {
			p = place{p.line + 1, 1}
		}
		places = append(places, p)
	}
	return places
}

// slowLines collects the lines of a text, byte by byte.
func slowLines(text string) []string {
	lines := []string{""}
	for i := range len(text) {
		if text[i] == '\n' {
			lines = append(lines, "")
		} else {
			lines[len(lines)-1] += text[i : i+1]
		}
	}
	return lines
}

// everyStringOf returns every string of an alphabet that is not longer than a size.
func everyStringOf(alphabet string, size int) []string {
	var l []string
	everyString(alphabet, size, func(s string) { l = append(l, s) })
	return l
}
