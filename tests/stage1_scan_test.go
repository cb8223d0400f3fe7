package tests

import (
	"bytes"
	"encoding/binary"
	"encoding/hex"
	"strconv"
	"strings"
	"testing"

	"loop.example/g00838/impl"
)

// Promise 1: bytes of numbers are read back, padding is zero, and checksums do not change by it.

func TestPromise1NumbersAreReadBack(t *testing.T) {
	check := func(n, width int) {
		data, ok := impl.WriteLittle(n, width)
		if !ok || len(data) != width {
			t.Fatalf("WriteLittle(%d, %d) = %v, %v", n, width, data, ok)
		}
		if back, ok := impl.ReadLittle(data, 0, width); back != n || !ok {
			t.Fatalf("ReadLittle of WriteLittle(%d, %d) = %d, %v", n, width, back, ok)
		}
		inside := append(append([]byte{201, 202, 203}, data...), 204, 205)
		if back, ok := impl.ReadLittle(inside, 3, width); back != n || !ok {
			t.Fatalf("ReadLittle of WriteLittle(%d, %d) among others = %d, %v", n, width, back, ok)
		}
	}
	for n := range 256 {
		check(n, 1)
	}
	for n := range 65536 {
		check(n, 2)
		check(n<<16|n^0x5a5a, 4)
	}
	for _, n := range []int{0, 1, 1<<31 - 1, 1 << 31, 1<<32 - 1} {
		check(n, 4)
	}
}

func TestPromise1BytesAreWrittenBack(t *testing.T) {
	for _, width := range []int{1, 2, 4} {
		for seed := range uint32(200) {
			data := noise(width, seed)
			n, ok := impl.ReadLittle(data, 0, width)
			back, okBack := impl.WriteLittle(n, width)
			if !ok || !okBack || !bytes.Equal(back, data) {
				t.Fatalf("%v is the number %d, %v with the bytes %v, %v", data, n, ok, back, okBack)
			}
		}
	}
}

func TestPromise1PaddingIsZeroAndKeepsChecksums(t *testing.T) {
	for size := range 70 {
		data := noise(size, uint32(size))
		if size > 0 {
			data[size-1] |= 1 // what is padding ends at the last byte that is not 0
		}
		for by := 1; by <= 16; by++ {
			padded, ok := impl.PadTo(data, by)
			if !ok || len(padded)%by != 0 || len(padded) < size || len(padded) >= size+by || !bytes.Equal(padded[:size], data) {
				t.Fatalf("PadTo(%v, %d) = %v, %v", data, by, padded, ok)
			}
			if aligned, ok := impl.AlignUp(size, by); aligned != len(padded) || !ok {
				t.Fatalf("AlignUp(%d, %d) = %d, %v with %d padded bytes", size, by, aligned, ok, len(padded))
			}
			if is, ok := impl.IsPadded(padded, size, len(padded)); !is || !ok {
				t.Fatalf("IsPadded of %v from %d = %v, %v", padded, size, is, ok)
			}
			if size > 0 {
				if is, ok := impl.IsPadded(padded, size-1, len(padded)); is || !ok {
					t.Fatalf("IsPadded of %v from %d = %v, %v", padded, size-1, is, ok)
				}
			}
			before, _ := impl.ChecksumOf(data)
			after, ok := impl.ChecksumOf(padded)
			if before != after || !ok {
				t.Fatalf("the checksum of %v is %d, and with padding %d, %v", data, before, after, ok)
			}
		}
	}
}

func TestReadLittle(t *testing.T) {
	long := filled(4000, 9)
	for _, c := range []struct {
		data      []byte
		at, width int
		n         int
		ok        bool
	}{
		{[]byte{1, 2}, 0, 2, 513, true},
		{[]byte{1, 2}, 1, 1, 2, true},
		{[]byte{255, 255, 255, 255}, 0, 4, 4294967295, true},
		{[]byte{9, 0, 0, 0, 128}, 1, 4, 2147483648, true},
		{[]byte{1, 2, 3}, 1, 2, 770, true},
		{[]byte{1, 2, 3}, 2, 2, 0, false}, // a last byte that is alone
		{[]byte{1, 2, 3}, 0, 4, 0, false},
		{[]byte{1, 2, 3}, 3, 1, 0, false},
		{[]byte{1, 2, 3}, 4, 1, 0, false},
		{[]byte{1, 2, 3}, -1, 1, 0, false},
		{[]byte{1, 2, 3}, 1<<63 - 1, 2, 0, false},
		{[]byte{1, 2, 3}, 1<<63 - 4, 4, 0, false},
		{[]byte{1, 2, 3}, -1 << 63, 4, 0, false},
		{[]byte{1, 2, 3, 4, 5, 6, 7, 8}, 0, 0, 0, false},
		{[]byte{1, 2, 3, 4, 5, 6, 7, 8}, 0, -1, 0, false},
		{[]byte{1, 2, 3, 4, 5, 6, 7, 8}, 0, 3, 0, false},
		{[]byte{1, 2, 3, 4, 5, 6, 7, 8}, 0, 5, 0, false},
		{[]byte{1, 2, 3, 4, 5, 6, 7, 8}, 0, 8, 0, false},
		{nil, 0, 1, 0, false},
		{withSpare([]byte{1}, 7), 0, 2, 0, false},
		{withSpare([]byte{1}, 7), 1, 1, 0, false},
		{long, 3999, 1, 9, true},
		{long, 3996, 4, 151587081, true},
		{long, 3997, 4, 0, false},
		{filled(4001, 9), 0, 1, 0, false},
	} {
		if n, ok := impl.ReadLittle(c.data, c.at, c.width); n != c.n || ok != c.ok {
			t.Errorf("ReadLittle(%d bytes, %d, %d) = %d, %v", len(c.data), c.at, c.width, n, ok)
		}
	}
}

func TestReadLittleAtEveryIndex(t *testing.T) {
	data := noise(40, 11)
	for at := range data {
		if n, ok := impl.ReadLittle(data, at, 1); n != int(data[at]) || !ok {
			t.Fatal(at, n, ok)
		}
		if at+2 <= len(data) {
			if n, ok := impl.ReadLittle(data, at, 2); n != int(binary.LittleEndian.Uint16(data[at:])) || !ok {
				t.Fatal(at, n, ok)
			}
		}
		if at+4 <= len(data) {
			if n, ok := impl.ReadLittle(data, at, 4); n != int(binary.LittleEndian.Uint32(data[at:])) || !ok {
				t.Fatal(at, n, ok)
			}
		}
	}
}

func TestWriteLittle(t *testing.T) {
	for _, c := range []struct {
		n, width int
		data     []byte
		ok       bool
	}{
		{513, 2, []byte{1, 2}, true},
		{0, 1, []byte{0}, true},
		{0, 4, []byte{0, 0, 0, 0}, true},
		{255, 1, []byte{255}, true},
		{256, 1, nil, false},
		{65535, 2, []byte{255, 255}, true},
		{65536, 2, nil, false},
		{67305985, 4, []byte{1, 2, 3, 4}, true},
		{4294967295, 4, []byte{255, 255, 255, 255}, true},
		{4294967296, 4, nil, false},
		{-1, 1, nil, false},
		{-1, 4, nil, false},
		{1<<63 - 1, 4, nil, false},
		{-1 << 63, 2, nil, false},
		{1, 0, nil, false},
		{0, 0, nil, false},
		{1, 3, nil, false},
		{1, 5, nil, false},
		{1, 8, nil, false},
		{1, -1, nil, false},
		{1, -4, nil, false},
		{1, 1<<63 - 1, nil, false},
	} {
		if data, ok := impl.WriteLittle(c.n, c.width); !bytes.Equal(data, c.data) || ok != c.ok {
			t.Errorf("WriteLittle(%d, %d) = %v, %v", c.n, c.width, data, ok)
		}
	}
}

func TestAlignUp(t *testing.T) {
	for _, c := range []struct {
		n, by, aligned int
		ok             bool
	}{
		{5, 4, 8, true},
		{8, 4, 8, true},
		{0, 16, 0, true},
		{1, 16, 16, true},
		{999999, 1, 999999, true},
		{999985, 16, 1000000, true},
		{1000000, 16, 1000000, true},
		{1000000, 1, 1000000, true},
		{1000000, 3, 1000002, true}, // the limit is that of n
		{1000000, 15, 1000005, true},
		{1000001, 1, 0, false},
		{1000001, 16, 0, false},
		{-1, 4, 0, false},
		{-16, 16, 0, false},
		{5, 0, 0, false},
		{5, -4, 0, false},
		{5, 17, 0, false},
		{34, 17, 0, false},
		{1<<63 - 1, 16, 0, false},
		{-1 << 63, 16, 0, false},
	} {
		if n, ok := impl.AlignUp(c.n, c.by); n != c.aligned || ok != c.ok {
			t.Errorf("AlignUp(%d, %d) = %d, %v", c.n, c.by, n, ok)
		}
	}
	for by := 1; by <= 16; by++ {
		for n := range 400 {
			aligned := n
			for aligned%by != 0 {
				aligned++
			}
			if got, ok := impl.AlignUp(n, by); got != aligned || !ok {
				t.Fatalf("AlignUp(%d, %d) = %d, %v", n, by, got, ok)
			}
		}
	}
}

func TestPadTo(t *testing.T) {
	for _, c := range []struct {
		size, by, padded int
		ok               bool
	}{
		{3, 4, 4, true},
		{4, 4, 4, true},
		{0, 4, 0, true},
		{4000, 16, 4000, true},
		{3985, 16, 4000, true},
		{3999, 2, 4000, true},
		{3999, 3, 3999, true},
		{4000, 3, 0, false},
		{3998, 7, 0, false},
		{3995, 11, 0, false},
		{4000, 1, 4000, true},
		{4001, 1, 0, false},
		{4001, 16, 0, false},
		{1000001, 1, 0, false},
		{3, 0, 0, false},
		{3, -1, 0, false},
		{3, 17, 0, false},
		{0, 0, 0, false},
	} {
		data := withSpare(filled(c.size, 7), 9)
		padded, ok := impl.PadTo(data, c.by)
		if len(padded) != c.padded || ok != c.ok {
			t.Errorf("PadTo(%d bytes, %d) = %d bytes, %v", c.size, c.by, len(padded), ok)
		}
		if want := append(filled(c.size, 7), filled(16, 0)...); ok && !bytes.Equal(padded, want[:c.padded]) {
			t.Errorf("PadTo(%d bytes, %d) changes bytes", c.size, c.by)
		}
	}
	if padded, ok := impl.PadTo(nil, 8); len(padded) != 0 || !ok {
		t.Error("no bytes", padded, ok)
	}
}

func TestIsPadded(t *testing.T) {
	data := []byte{1, 0, 0, 2, 0}
	for from := -2; from < 8; from++ {
		for to := -2; to < 8; to++ {
			want, valid := true, from >= 0 && from <= to && to <= len(data)
			for i := from; valid && i < to; i++ {
				want = want && data[i] == 0
			}
			want = want && valid
			if is, ok := impl.IsPadded(data, from, to); is != want || ok != valid {
				t.Errorf("IsPadded(%v, %d, %d) = %v, %v", data, from, to, is, ok)
			}
		}
	}
	for _, c := range []struct {
		data     []byte
		from, to int
		is, ok   bool
	}{
		{nil, 0, 0, true, true},
		{nil, 0, 1, false, false},
		{withSpare([]byte{0}, 0), 0, 2, false, false},
		{filled(4000, 0), 0, 4000, true, true},
		{append(filled(3999, 0), 1), 0, 4000, false, true},
		{append(filled(3999, 0), 1), 0, 3999, true, true},
		{filled(4001, 0), 0, 1, false, false},
		{filled(4001, 0), 0, 0, false, false},
		{data, 1<<63 - 1, 1<<63 - 1, false, false},
		{data, -1 << 63, 1, false, false},
		{data, 0, 1<<63 - 1, false, false},
	} {
		if is, ok := impl.IsPadded(c.data, c.from, c.to); is != c.is || ok != c.ok {
			t.Errorf("IsPadded(%d bytes, %d, %d) = %v, %v", len(c.data), c.from, c.to, is, ok)
		}
	}
}

type numberCase struct {
	s      string
	at     int
	n, end int
	ok     bool
}

func checkNumbers(t *testing.T, name string, numberAt func(string, int) (int, int, bool), cases []numberCase) {
	for _, c := range cases {
		if n, end, ok := numberAt(c.s, c.at); n != c.n || end != c.end || ok != c.ok {
			t.Errorf("%s(%.40q of %d bytes, %d) = %d, %d, %v", name, c.s, len(c.s), c.at, n, end, ok)
		}
	}
}

func TestDecimalAt(t *testing.T) {
	checkNumbers(t, "DecimalAt", impl.DecimalAt, []numberCase{
		{"x120y", 1, 120, 4, true},
		{"x120y", 2, 20, 4, true},
		{"x120y", 3, 0, 4, true},
		{"x120y", 0, 0, 0, false},
		{"x120y", 4, 0, 0, false},
		{"x120y", 5, 0, 0, false},
		{"x120y", 6, 0, 0, false},
		{"x120y", -1, 0, 0, false},
		{"x120y", 1<<63 - 1, 0, 0, false},
		{"x120y", -1 << 63, 0, 0, false},
		{"", 0, 0, 0, false},
		{"0", 0, 0, 1, true},
		{"0a", 0, 0, 1, true},
		{"0x1f", 0, 0, 1, true},
		{"00", 0, 0, 0, false},
		{"01", 0, 0, 0, false},
		{"105", 1, 0, 0, false},
		{"105", 2, 5, 3, true},
		{"123456789", 0, 123456789, 9, true},
		{"1000000000", 0, 1000000000, 10, true},
		{"1000000000.", 0, 1000000000, 10, true},
		{"1000000001", 0, 0, 0, false},
		{"9999999999", 0, 0, 0, false},
		{"10000000000", 0, 0, 0, false},
		{"18446744073709551617", 0, 0, 0, false}, // 1 if it overflowed
		{"5/", 0, 5, 1, true},
		{"5:", 0, 5, 1, true},
		{"/5", 0, 0, 0, false},
		{":5", 0, 0, 0, false},
		{"+5", 0, 0, 0, false},
		{"-5", 0, 0, 0, false},
		{" 5", 0, 0, 0, false},
		{"1_0", 0, 1, 1, true},
		{"\u0661", 0, 0, 0, false},
		{"\x00\xff7\x00", 2, 7, 3, true}, // a text may have bytes that are not plain
		{strings.Repeat("9", 4000), 0, 0, 0, false},
		{strings.Repeat("0", 4000), 0, 0, 0, false},
		{strings.Repeat("9", 4000), 3991, 999999999, 4000, true},
		{strings.Repeat("a", 3999) + "7", 3999, 7, 4000, true},
		{strings.Repeat("a", 4000), 4000, 0, 0, false},
		{"7" + strings.Repeat("a", 4000), 0, 0, 0, false},
	})
	for n := range 3000 {
		s := strconv.Itoa(n * 333337)
		if got, end, ok := impl.DecimalAt("a"+s+"b", 1); got != n*333337 || end != 1+len(s) || !ok {
			t.Fatal(s, got, end, ok)
		}
	}
}

func TestHexAt(t *testing.T) {
	checkNumbers(t, "HexAt", impl.HexAt, []numberCase{
		{"0x1f", 0, 31, 4, true},
		{"a0x1f;", 1, 31, 5, true},
		{"0x0", 0, 0, 3, true},
		{"0x00", 0, 0, 4, true},
		{"0x00000000", 0, 0, 10, true},
		{"0x000000000", 0, 0, 0, false},
		{"0x0000001f", 0, 31, 10, true},
		{"0x89abcdef", 0, 2309737967, 10, true},
		{"0xffffffff", 0, 4294967295, 10, true},
		{"0xffffffffg", 0, 4294967295, 10, true},
		{"0x100000000", 0, 0, 0, false},
		{"0xfffffffff", 0, 0, 0, false},
		{"0x" + strings.Repeat("0", 64) + "1", 0, 0, 0, false},
		{"0x1F", 0, 1, 3, true},
		{"0x1g", 0, 1, 3, true},
		{"0x1/", 0, 1, 3, true},
		{"0x1:", 0, 1, 3, true},
		{"0x1`", 0, 1, 3, true},
		{"0x1@", 0, 1, 3, true},
		{"0xF", 0, 0, 0, false},
		{"0xg", 0, 0, 0, false},
		{"0x", 0, 0, 0, false},
		{"0X1", 0, 0, 0, false},
		{"1x1", 0, 0, 0, false},
		{"x1", 0, 0, 0, false},
		{"1f", 0, 0, 0, false},
		{"0", 0, 0, 0, false},
		{"", 0, 0, 0, false},
		{"0x0x1", 0, 0, 3, true},
		{"0x0x1", 2, 1, 5, true},
		{"0x1f", 1, 0, 0, false},
		{"0x1f", 4, 0, 0, false},
		{"0x1f", 5, 0, 0, false},
		{"0x1f", -1, 0, 0, false},
		{"0x1f", 1<<63 - 1, 0, 0, false},
		{"0x1f", -1 << 63, 0, 0, false},
		{"\xff0xa\xff", 1, 10, 4, true},
		{strings.Repeat("a", 3997) + "0xb", 3997, 11, 4000, true},
		{strings.Repeat("a", 3998) + "0x", 3998, 0, 0, false},
		{"0x1" + strings.Repeat("g", 3998), 0, 0, 0, false},
	})
}

func TestHexOf(t *testing.T) {
	for _, c := range []struct {
		n  int
		s  string
		ok bool
	}{
		{31, "0x1f", true},
		{0, "0x0", true},
		{15, "0xf", true},
		{16, "0x10", true},
		{4096, "0x1000", true},
		{2309737967, "0x89abcdef", true},
		{4294967295, "0xffffffff", true},
		{4294967296, "", false},
		{-1, "", false},
		{1<<63 - 1, "", false},
		{-1 << 63, "", false},
	} {
		if s, ok := impl.HexOf(c.n); s != c.s || ok != c.ok {
			t.Errorf("HexOf(%d) = %q, %v", c.n, s, ok)
		}
	}
	for i := range 5000 {
		n := i * i * i % (1 << 32)
		s, ok := impl.HexOf(n)
		if s != "0x"+strconv.FormatInt(int64(n), 16) || !ok {
			t.Fatalf("HexOf(%d) = %q, %v", n, s, ok)
		}
		if back, end, ok := impl.HexAt(s, 0); back != n || end != len(s) || !ok {
			t.Fatalf("HexAt(%q, 0) = %d, %d, %v", s, back, end, ok)
		}
	}
}

// slowChecksum adds everything up before anything is taken off.
func slowChecksum(data []byte) int {
	sum := 0
	for i, b := range data {
		if i%2 == 0 {
			sum += 256 * int(b)
		} else {
			sum += int(b)
		}
	}
	for sum > 65535 {
		sum -= 65535
	}
	return 65535 - sum
}

func TestChecksumOf(t *testing.T) {
	for _, c := range []struct {
		data []byte
		sum  int
		ok   bool
	}{
		{[]byte{1, 2, 3}, 64509, true},
		{nil, 65535, true},
		{[]byte{0}, 65535, true},
		{[]byte{1}, 65279, true}, // a last byte that is alone is the higher one
		{[]byte{0, 1}, 65534, true},
		{[]byte{255, 255}, 0, true}, // 65535 itself is not taken off
		{[]byte{255, 255, 0, 0}, 0, true},
		{[]byte{255, 255, 0, 1}, 65534, true},
		{[]byte{255, 255, 255, 255}, 0, true},
		{[]byte{255, 254, 0, 1}, 0, true},
		{[]byte{255, 255, 255}, 255, true},
		{withSpare([]byte{1, 2, 3}, 5), 64509, true},
		{filled(4000, 255), 0, true},
		{append(filled(3999, 0), 1), 65534, true},
		{filled(4000, 0), 65535, true},
		{filled(4001, 0), 0, false},
	} {
		if sum, ok := impl.ChecksumOf(c.data); sum != c.sum || ok != c.ok {
			t.Errorf("ChecksumOf(%d bytes) = %d, %v", len(c.data), sum, ok)
		}
	}
	for size := 0; size <= 4000; size += 37 {
		data := noise(size, uint32(size))
		if sum, ok := impl.ChecksumOf(data); sum != slowChecksum(data) || !ok {
			t.Fatalf("ChecksumOf(%d bytes) = %d, %v", size, sum, ok)
		}
	}
}

func TestBytesText(t *testing.T) {
	for b := range 256 {
		if s, ok := impl.BytesText([]byte{byte(b)}); s != hex.EncodeToString([]byte{byte(b)}) || !ok {
			t.Errorf("BytesText of %d = %q, %v", b, s, ok)
		}
	}
	for _, data := range sampleBytes() {
		s, ok := impl.BytesText(data)
		if len(data) > 4000 {
			if s != "" || ok {
				t.Errorf("BytesText(%d bytes) = %d bytes, %v", len(data), len(s), ok)
			}
			continue
		}
		if s != hex.EncodeToString(data) || !ok {
			t.Errorf("BytesText(%v) = %q, %v", data, s, ok)
		}
		if back, ok := impl.ParseBytes(s); !bytes.Equal(back, data) || !ok {
			t.Errorf("ParseBytes(%q) = %v, %v", s, back, ok)
		}
	}
}

func TestParseBytes(t *testing.T) {
	for _, c := range []struct {
		s    string
		data []byte
		ok   bool
	}{
		{"", nil, true},
		{"00ff", []byte{0, 255}, true},
		{"0123456789abcdef", []byte{1, 35, 69, 103, 137, 171, 205, 239}, true},
		{"0", nil, false},
		{"00f", nil, false},
		{"00FF", nil, false},
		{"0g", nil, false},
		{"g0", nil, false},
		{"00 ff", nil, false},
		{"00ff\n", nil, false},
		{" 0", nil, false},
		{"0x1f", nil, false},
		{strings.Repeat("a7", 4000), filled(4000, 167), true},
		{strings.Repeat("a7", 4000) + "0", nil, false},
		{strings.Repeat("a7", 4001), nil, false},
		{strings.Repeat("a7", 3999) + "ag", nil, false},
	} {
		if data, ok := impl.ParseBytes(c.s); !bytes.Equal(data, c.data) || ok != c.ok {
			t.Errorf("ParseBytes(%.20q of %d bytes) = %d bytes, %v", c.s, len(c.s), len(data), ok)
		}
	}
}

func TestParseBytesOfEveryPair(t *testing.T) {
	for high := range 256 {
		for low := range 256 {
			s := string([]byte{byte(high), byte(low)})
			want, err := hex.DecodeString(s)
			valid := err == nil && s == strings.ToLower(s)
			if !valid {
				want = nil
			}
			if data, ok := impl.ParseBytes(s); ok != valid || !bytes.Equal(data, want) {
				t.Errorf("ParseBytes(%q) = %v, %v", s, data, ok)
			}
		}
	}
}

func TestFirstBad(t *testing.T) {
	for b := range 256 {
		at := 3
		if b == 9 || b == 10 || 32 <= b && b <= 126 {
			at = 5
		}
		if got, ok := impl.FirstBad("abc" + string([]byte{byte(b)}) + "d"); got != at || !ok {
			t.Errorf("FirstBad with the byte %d = %d, %v", b, got, ok)
		}
	}
	for _, c := range []struct {
		s  string
		at int
		ok bool
	}{
		{"", 0, true},
		{"ab\x7f", 2, true},
		{"\x00", 0, true},
		{"a\r\x00", 1, true},
		{"a\u00e9", 1, true},
		{strings.Repeat("a", 4000), 4000, true},
		{strings.Repeat("a", 3999) + "\xff", 3999, true},
		{strings.Repeat("a", 4000) + "\xff", 0, false},
		{"\xff" + strings.Repeat("a", 4000), 0, false},
	} {
		if at, ok := impl.FirstBad(c.s); at != c.at || ok != c.ok {
			t.Errorf("FirstBad(%.20q of %d bytes) = %d, %v", c.s, len(c.s), at, ok)
		}
	}
}
