package tests

import (
	"bytes"
	"reflect"
	"testing"

	"loop.example/g00838/impl"
)

// Promise 33: every function accepts all arguments without panicking and modifies none of them.

// answer is what a call returned: its results but the last one, and this one.
type answer struct {
	results []any
	ok      bool
}

// scanCall is a call of a function of chapter 1, which uses those of the arguments that the function has.
type scanCall struct {
	name string
	call func(data []byte, s string, a, b int) answer
}

func scanCalls() []scanCall {
	return []scanCall{
		{"ReadLittle", func(data []byte, s string, a, b int) answer {
			n, ok := impl.ReadLittle(data, a, b)
			return answer{[]any{n}, ok}
		}},
		{"WriteLittle", func(data []byte, s string, a, b int) answer {
			l, ok := impl.WriteLittle(a, b)
			return answer{[]any{l}, ok}
		}},
		{"AlignUp", func(data []byte, s string, a, b int) answer {
			n, ok := impl.AlignUp(a, b)
			return answer{[]any{n}, ok}
		}},
		{"PadTo", func(data []byte, s string, a, b int) answer {
			l, ok := impl.PadTo(data, a)
			return answer{[]any{l}, ok}
		}},
		{"IsPadded", func(data []byte, s string, a, b int) answer {
			is, ok := impl.IsPadded(data, a, b)
			return answer{[]any{is}, ok}
		}},
		{"DecimalAt", func(data []byte, s string, a, b int) answer {
			n, end, ok := impl.DecimalAt(s, a)
			return answer{[]any{n, end}, ok}
		}},
		{"HexAt", func(data []byte, s string, a, b int) answer {
			n, end, ok := impl.HexAt(s, a)
			return answer{[]any{n, end}, ok}
		}},
		{"HexOf", func(data []byte, s string, a, b int) answer {
			text, ok := impl.HexOf(a)
			return answer{[]any{text}, ok}
		}},
		{"ChecksumOf", func(data []byte, s string, a, b int) answer {
			n, ok := impl.ChecksumOf(data)
			return answer{[]any{n}, ok}
		}},
		{"BytesText", func(data []byte, s string, a, b int) answer {
			text, ok := impl.BytesText(data)
			return answer{[]any{text}, ok}
		}},
		{"ParseBytes", func(data []byte, s string, a, b int) answer {
			l, ok := impl.ParseBytes(s)
			return answer{[]any{l}, ok}
		}},
		{"FirstBad", func(data []byte, s string, a, b int) answer {
			n, ok := impl.FirstBad(s)
			return answer{[]any{n}, ok}
		}},
	}
}

// isZero reports whether a result is the zero value of its type, or an empty slice, which is the same value as nil.
func isZero(result any) bool {
	v := reflect.ValueOf(result)
	return v.IsZero() || v.Kind() == reflect.Slice && v.Len() == 0
}

func (a answer) equals(b answer) bool {
	for i := range a.results {
		if l, is := a.results[i].([]byte); is {
			if !bytes.Equal(l, b.results[i].([]byte)) {
				return false
			}
		} else if a.results[i] != b.results[i] {
			return false
		}
	}
	return a.ok == b.ok
}

// scribble changes all bytes of the results, up to their capacity.
func (a answer) scribble() {
	for _, result := range a.results {
		if l, is := result.([]byte); is {
			for i := range l[:cap(l)] {
				l[:cap(l)][i] ^= 0x5a
			}
		}
	}
}

func (c scanCall) check(t *testing.T, data []byte, s string, a, b int) {
	t.Helper()
	defer func() {
		if fault := recover(); fault != nil {
			t.Fatalf("%s panics: %v; %d bytes, %.40q, %d, %d", c.name, fault, len(data), s, a, b)
		}
	}()
	first := withSpare(data, 0)
	before := whole(first)
	got := c.call(first, s, a, b)
	if !bytes.Equal(whole(first), before) {
		t.Fatalf("%s changes its argument: %d bytes, %d, %d", c.name, len(data), a, b)
	}
	for _, result := range got.results {
		if !got.ok && !isZero(result) {
			t.Fatalf("%s fails with %v; %d bytes, %.40q, %d, %d", c.name, result, len(data), s, a, b)
		}
	}
	again := c.call(withSpare(data, 255), s, a, b)
	if !again.equals(got) {
		t.Fatalf("%s depends on more than its arguments: %v, %v; %d bytes, %.40q, %d, %d", c.name, got, again, len(data), s, a, b)
	}
	again.scribble()
	if third := c.call(first, s, a, b); !third.equals(got) {
		t.Fatalf("%s returns memory that it uses again; %d bytes, %.40q, %d, %d", c.name, len(data), s, a, b)
	}
	got.scribble()
	if !bytes.Equal(whole(first), before) {
		t.Fatalf("%s returns memory of its argument: %d bytes, %d, %d", c.name, len(data), a, b)
	}
}

func TestPromise33OfBytes(t *testing.T) {
	for _, c := range scanCalls() {
		for _, data := range sampleBytes() {
			for _, a := range extremes {
				c.check(t, data, "", a, 1)
				c.check(t, data, "", 0, a)
			}
		}
	}
}

func TestPromise33OfTexts(t *testing.T) {
	for _, c := range scanCalls() {
		for _, s := range sampleTexts() {
			for _, at := range extremes {
				c.check(t, nil, s, at, 0)
			}
			for at := -1; at <= min(len(s), 64)+1; at++ {
				c.check(t, nil, s, at, 0)
			}
			for at := len(s) - 12; at <= len(s)+1; at++ {
				c.check(t, nil, s, at, 0)
			}
		}
	}
}

func TestPromise33OfNumbers(t *testing.T) {
	for _, c := range scanCalls() {
		for _, a := range extremes {
			for _, b := range extremes {
				c.check(t, []byte{1, 2, 0, 0, 5}, "0x1f 120", a, b)
			}
		}
	}
}
