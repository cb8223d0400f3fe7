package tests

import (
	"bytes"
	"slices"
	"strings"
)

// extremes are whole numbers around the limits of the program and of int itself.
var extremes = []int{
	-1 << 63, -1<<63 + 1, -1 << 31, -4000, -5, -1, 0, 1, 2, 3, 4, 5, 7, 8, 15, 16, 17,
	255, 256, 3996, 3999, 4000, 4001, 65535, 65536, 1000000, 1000001, 1000000000, 1000000001,
	1<<32 - 1, 1 << 32, 1<<63 - 5, 1<<63 - 2, 1<<63 - 1,
}

// noise returns bytes that look random and are the same in every run.
func noise(size int, seed uint32) []byte {
	data := make([]byte, size)
	for i := range data {
		seed = seed*1664525 + 1013904223
		data[i] = byte(seed >> 24)
	}
	return data
}

// filled returns a number of equal bytes.
func filled(size int, with byte) []byte {
	return bytes.Repeat([]byte{with}, size)
}

// withSpare returns a copy of a list in front of elements that belong to its capacity alone.
func withSpare[T any](list []T, spare T) []T {
	whole := append(slices.Clone(list), slices.Repeat([]T{spare}, 40)...)
	return whole[:len(list):len(whole)]
}

// sampleBytes are lists of bytes, the last one of which is too long.
func sampleBytes() [][]byte {
	return [][]byte{
		nil, {}, {0}, {1}, {255}, {0, 0}, {1, 2}, {255, 255}, {1, 2, 3}, {0, 0, 0, 0}, {7, 0, 0, 0, 0},
		{255, 255, 255, 255, 255}, noise(17, 1), noise(255, 2), noise(3999, 3), filled(4000, 255), filled(4000, 0),
		filled(4001, 0),
	}
}

// sampleTexts are strings of many forms, the last ones of which are too long.
func sampleTexts() []string {
	return []string{
		"", "0", "00", "007", "7", "10", "x120y", "-1", "+1", " 1", "1000000000", "1000000001", "99999999999999999999999",
		"0x", "0x0", "0x1f", "0x1F", "0X1f", "0xg", "0x00000000", "0xffffffff", "0x100000000", "0x0x1", "ab0x7", "00ff",
		"AB", "0g", "a", "\x00", "a\tb\nc", "a\r", "ab\x7f", "\xff\xfe", "\u0661\u0662", "\U0001F600",
		string(noise(64, 4)), strings.Repeat("9", 4000), strings.Repeat("f", 4000), strings.Repeat("a", 3998) + "0x",
		strings.Repeat("a", 4001), strings.Repeat("f", 8000), strings.Repeat("f", 8002),
	}
}
