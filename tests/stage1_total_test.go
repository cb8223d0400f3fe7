package tests

import (
	"fmt"
	"testing"

	"loop.example/g00838/impl"
)

// Promise 33: every function accepts all arguments without panicking and modifies none of them.

// scanCall is a call of a function of chapter 1, which uses those of the arguments that the function has.
type scanCall struct {
	name string
	call func(data []byte, s string, a, b int) answer
}

func scanCalls() []scanCall {
	return []scanCall{
		{"ReadLittle", func(data []byte, s string, a, b int) answer {
			n, ok := impl.ReadLittle(data, a, b)
			return answer{[]any{n}, ok}
		}},
		{"WriteLittle", func(data []byte, s string, a, b int) answer {
			l, ok := impl.WriteLittle(a, b)
			return answer{[]any{l}, ok}
		}},
		{"AlignUp", func(data []byte, s string, a, b int) answer {
			n, ok := impl.AlignUp(a, b)
			return answer{[]any{n}, ok}
		}},
		{"PadTo", func(data []byte, s string, a, b int) answer {
			l, ok := impl.PadTo(data, a)
			return answer{[]any{l}, ok}
		}},
		{"IsPadded", func(data []byte, s string, a, b int) answer {
			is, ok := impl.IsPadded(data, a, b)
			return answer{[]any{is}, ok}
		}},
		{"DecimalAt", func(data []byte, s string, a, b int) answer {
			n, end, ok := impl.DecimalAt(s, a)
			return answer{[]any{n, end}, ok}
		}},
		{"HexAt", func(data []byte, s string, a, b int) answer {
			n, end, ok := impl.HexAt(s, a)
			return answer{[]any{n, end}, ok}
		}},
		{"HexOf", func(data []byte, s string, a, b int) answer {
			text, ok := impl.HexOf(a)
			return answer{[]any{text}, ok}
		}},
		{"ChecksumOf", func(data []byte, s string, a, b int) answer {
			n, ok := impl.ChecksumOf(data)
			return answer{[]any{n}, ok}
		}},
		{"BytesText", func(data []byte, s string, a, b int) answer {
			text, ok := impl.BytesText(data)
			return answer{[]any{text}, ok}
		}},
		{"ParseBytes", func(data []byte, s string, a, b int) answer {
			l, ok := impl.ParseBytes(s)
			return answer{[]any{l}, ok}
		}},
		{"FirstBad", func(data []byte, s string, a, b int) answer {
			n, ok := impl.FirstBad(s)
			return answer{[]any{n}, ok}
		}},
	}
}

func (c scanCall) check(t *testing.T, data []byte, s string, a, b int) {
	t.Helper()
	checkTotal(t, func() string {
		return fmt.Sprintf("%s of %d bytes, %.40q, %d, %d", c.name, len(data), s, a, b)
	}, withSpare(data, 0), withSpare(data, 255), func(data []byte) answer {
		return c.call(data, s, a, b)
	})
}

func TestPromise33OfBytes(t *testing.T) {
	for _, c := range scanCalls() {
		for _, data := range sampleBytes() {
			for _, a := range extremes {
				c.check(t, data, "", a, 1)
				c.check(t, data, "", 0, a)
			}
		}
	}
}

func TestPromise33OfTexts(t *testing.T) {
	for _, c := range scanCalls() {
		for _, s := range sampleTexts() {
			for _, at := range extremes {
				c.check(t, nil, s, at, 0)
			}
			for at := -1; at <= min(len(s), 64)+1; at++ {
				c.check(t, nil, s, at, 0)
			}
			for at := len(s) - 12; at <= len(s)+1; at++ {
				c.check(t, nil, s, at, 0)
			}
		}
	}
}

func TestPromise33OfNumbers(t *testing.T) {
	for _, c := range scanCalls() {
		for _, a := range extremes {
			for _, b := range extremes {
				c.check(t, []byte{1, 2, 0, 0, 5}, "0x1f 120", a, b)
			}
		}
	}
}
