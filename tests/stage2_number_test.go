package tests

import (
	"math/big"
	"regexp"
	"slices"
	"strconv"
	"strings"
	"testing"

	"loop.example/g00838/impl"
)

// Promise 2: texts of values are read back, and sums and products are exact or refused.

var (
	decimalText     = regexp.MustCompile(`\A(0|[1-9][0-9]*)([km]?)\z`)
	hexadecimalText = regexp.MustCompile(`\A0x(0|[1-9a-f][0-9a-f]*)\z`)
)

// sampleValues are values around 0, the units, their multiples and the greatest value.
func sampleValues() []int {
	values := []int{65535, 65536, 123456789, 999999999, 1000000000}
	for n := range 3000 {
		values = append(values, n, n*1000, n*333333, 1000000000-n)
	}
	for n := range 1001 {
		values = append(values, n*1000000, n*999999, 1000000000-n*1000)
	}
	return values
}

// everyString calls a function with every string of an alphabet that is not longer than a size.
func everyString(alphabet string, size int, use func(s string)) {
	use("")
	if size == 0 {
		return
	}
	for _, letter := range strings.Split(alphabet, "") {
		everyString(alphabet, size-1, func(s string) { use(letter + s) })
	}
}

// upTo returns a big number if it lies in 0..limit.
func upTo(n *big.Int, limit int64) (int, bool) {
	if n.Sign() < 0 || n.Cmp(big.NewInt(limit)) > 0 {
		return 0, false
	}
	return int(n.Int64()), true
}

// slowDecimal reads a decimal text without a limit on the way.
func slowDecimal(s string) (int, bool) {
	parts := decimalText.FindStringSubmatch(s)
	if parts == nil || parts[1] == "0" && parts[2] != "" {
		return 0, false
	}
	zeros := map[string]string{"": "", "k": "000", "m": "000000"}[parts[2]]
	n, _ := new(big.Int).SetString(parts[1]+zeros, 10)
	return upTo(n, 1000000000)
}

// slowHexadecimal reads a hexadecimal text without a limit on the way.
func slowHexadecimal(s string) (int, bool) {
	parts := hexadecimalText.FindStringSubmatch(s)
	if parts == nil {
		return 0, false
	}
	n, _ := new(big.Int).SetString(parts[1], 16)
	return upTo(n, 65535)
}

// checkReads compares what all functions that read a string return with what the slow ones do.
func checkReads(t *testing.T, s string) {
	t.Helper()
	dec, okDec := slowDecimal(s)
	if n, ok := impl.ReadNumber(s); n != dec || ok != okDec {
		t.Fatalf("ReadNumber(%.40q) = %d, %v", s, n, ok)
	}
	hex, okHex := slowHexadecimal(s)
	if n, ok := impl.ReadHex(s); n != hex || ok != okHex {
		t.Fatalf("ReadHex(%.40q) = %d, %v", s, n, ok)
	}
	// No string is a text of both kinds.
	if n, ok := impl.ReadAny(s); n != dec+hex || ok != (okDec || okHex) {
		t.Fatalf("ReadAny(%.40q) = %d, %v", s, n, ok)
	}
	// A greater unit could stand for the last three digits if they are 0.
	canonical := okDec && !strings.HasSuffix(s, "000") && !strings.HasSuffix(s, "000k")
	if is := impl.IsCanonical(s); is != canonical {
		t.Fatalf("IsCanonical(%.40q) = %v", s, is)
	}
}

func TestPromise2TextsAreReadBack(t *testing.T) {
	for _, n := range sampleValues() {
		text, ok := impl.NumberText(n)
		if !ok || !impl.IsCanonical(text) {
			t.Fatalf("NumberText(%d) = %q, %v", n, text, ok)
		}
		forms, ok := impl.FormsOf(n)
		if !ok || len(forms) == 0 || forms[0] != text {
			t.Fatalf("FormsOf(%d) = %q, %v", n, forms, ok)
		}
		for i, form := range forms {
			if back, ok := impl.ReadNumber(form); back != n || !ok {
				t.Fatalf("ReadNumber(%q) = %d, %v", form, back, ok)
			}
			if back, ok := impl.ReadAny(form); back != n || !ok {
				t.Fatalf("ReadAny(%q) = %d, %v", form, back, ok)
			}
			if impl.IsCanonical(form) != (i == 0) {
				t.Fatalf("IsCanonical(%q), which is text %d of %d", form, i, n)
			}
		}
	}
}

func TestPromise2HexadecimalTextsAreReadBack(t *testing.T) {
	for n := range 65536 {
		text, ok := impl.HexText(n)
		if text != "0x"+strconv.FormatInt(int64(n), 16) || !ok {
			t.Fatalf("HexText(%d) = %q, %v", n, text, ok)
		}
		if back, ok := impl.ReadHex(text); back != n || !ok {
			t.Fatalf("ReadHex(%q) = %d, %v", text, back, ok)
		}
		if back, ok := impl.ReadAny(text); back != n || !ok {
			t.Fatalf("ReadAny(%q) = %d, %v", text, back, ok)
		}
	}
}

func TestPromise2EveryShortStringIsReadOrRefused(t *testing.T) {
	everyString("019kmxa", 5, func(s string) { checkReads(t, s) })
	everyString("0k5", 8, func(s string) { checkReads(t, s) })
	everyString("01m", 8, func(s string) { checkReads(t, s) })
	everyString("0xf", 8, func(s string) { checkReads(t, s) })
	for b := range 256 {
		letter := string([]byte{byte(b)})
		for _, s := range []string{"", "1", "0x", "0x1", "1k", "0"} {
			checkReads(t, letter+s)
			checkReads(t, s+letter)
			checkReads(t, s+letter+"1")
		}
	}
	for _, s := range sampleTexts() {
		checkReads(t, s)
	}
}

func TestPromise2SumsAreExactOrRefused(t *testing.T) {
	seed := uint32(1)
	for size := range 45 {
		for _, spread := range []int{1, 1000, 10000000, 25000000, 60000000, 1000000000} {
			list := make([]int, size)
			sum := new(big.Int)
			for i := range list {
				seed = seed*1664525 + 1013904223
				list[i] = int(seed>>2) % (spread + 1)
				sum.Add(sum, big.NewInt(int64(list[i])))
			}
			want, okWant := upTo(sum, 1000000000)
			if size > 40 {
				want, okWant = 0, false
			}
			if got, ok := impl.AddValues(list); got != want || ok != okWant {
				t.Fatalf("AddValues(%v) = %d, %v", list, got, ok)
			}
		}
	}
}

// factors are numbers around the limits of values, scales and int itself, and around their roots.
func factors() []int {
	return append([]int{6, 9, 10, 11, 97, 999, 1000, 1001, 31622, 31623, 999999, 500000000, 999999999, 3037000500, 4294967297}, extremes...)
}

func isIn(n, low, high int) bool {
	return low <= n && n <= high
}

func TestPromise2ProductsAreExactOrRefused(t *testing.T) {
	for _, a := range factors() {
		for _, b := range factors() {
			want, okWant := upTo(new(big.Int).Mul(big.NewInt(int64(a)), big.NewInt(int64(b))), 1000000000)
			if !isIn(a, 0, 1000000000) || !isIn(b, 0, 1000000000) {
				want, okWant = 0, false
			}
			if got, ok := impl.MultiplyValues(a, b); got != want || ok != okWant {
				t.Fatalf("MultiplyValues(%d, %d) = %d, %v", a, b, got, ok)
			}
		}
	}
}

// slowScale divides big numbers.
func slowScale(n, num, den int, up bool) (int, bool) {
	if !isIn(n, 0, 1000000000) || !isIn(num, 0, 1000000) || !isIn(den, 1, 1000000) {
		return 0, false
	}
	scaled, rest := new(big.Int), new(big.Int)
	scaled.Mul(big.NewInt(int64(n)), big.NewInt(int64(num)))
	scaled.DivMod(scaled, big.NewInt(int64(den)), rest)
	if up && rest.Sign() > 0 {
		scaled.Add(scaled, big.NewInt(1))
	}
	return upTo(scaled, 1000000000)
}

func TestPromise2ScaledValuesAreExactOrRefused(t *testing.T) {
	check := func(n, num, den int) {
		for _, up := range []bool{false, true} {
			want, okWant := slowScale(n, num, den, up)
			if got, ok := impl.ScaleValue(n, num, den, up); got != want || ok != okWant {
				t.Fatalf("ScaleValue(%d, %d, %d, %v) = %d, %v", n, num, den, up, got, ok)
			}
		}
	}
	for _, n := range factors() {
		for _, num := range factors() {
			for _, den := range factors() {
				check(n, num, den)
			}
		}
	}
	for n := range 30 {
		for num := range 30 {
			for den := range 30 {
				check(n, num, den)
				check(1000000000-n, num, den)
			}
		}
	}
}

type valueText struct {
	n    int
	text string
	ok   bool
}

func TestNumberText(t *testing.T) {
	for _, c := range []valueText{
		{0, "0", true},
		{1, "1", true},
		{999, "999", true},
		{1000, "1k", true},
		{1001, "1001", true},
		{1500, "1500", true},
		{2000, "2k", true},
		{999000, "999k", true},
		{1000000, "1m", true},
		{1000001, "1000001", true},
		{1001000, "1001k", true},
		{10010000, "10010k", true},
		{3000000, "3m", true},
		{100000000, "100m", true},
		{999999999, "999999999", true},
		{999999000, "999999k", true},
		{999000000, "999m", true},
		{1000000000, "1000m", true},
		{1000000001, "", false},
		{1001000000, "", false},
		{-1, "", false},
		{-1000, "", false},
		{1<<63 - 1, "", false},
		{-1 << 63, "", false},
	} {
		if text, ok := impl.NumberText(c.n); text != c.text || ok != c.ok {
			t.Errorf("NumberText(%d) = %q, %v", c.n, text, ok)
		}
	}
}

func TestFormsOf(t *testing.T) {
	for _, c := range []struct {
		n     int
		forms []string
		ok    bool
	}{
		{0, []string{"0"}, true},
		{1, []string{"1"}, true},
		{999, []string{"999"}, true},
		{1000, []string{"1k", "1000"}, true},
		{1500, []string{"1500"}, true},
		{999000, []string{"999k", "999000"}, true},
		{1000000, []string{"1m", "1000k", "1000000"}, true},
		{1500000, []string{"1500k", "1500000"}, true},
		{3000000, []string{"3m", "3000k", "3000000"}, true},
		{1000000000, []string{"1000m", "1000000k", "1000000000"}, true},
		{1000000001, nil, false},
		{1001000000, nil, false},
		{-1, nil, false},
		{-1000000, nil, false},
		{1<<63 - 1, nil, false},
		{-1 << 63, nil, false},
	} {
		if forms, ok := impl.FormsOf(c.n); !slices.Equal(forms, c.forms) || ok != c.ok {
			t.Errorf("FormsOf(%d) = %q, %v", c.n, forms, ok)
		}
	}
}

type readCase struct {
	s  string
	n  int
	ok bool
}

func checkRead(t *testing.T, name string, read func(string) (int, bool), cases []readCase) {
	t.Helper()
	for _, c := range cases {
		if n, ok := read(c.s); n != c.n || ok != c.ok {
			t.Errorf("%s(%.40q of %d bytes) = %d, %v", name, c.s, len(c.s), n, ok)
		}
	}
}

// decimalCases are strings with what ReadNumber returns; none of them begins with 0x.
func decimalCases() []readCase {
	cases := []readCase{
		{"0", 0, true},
		{"0k", 0, false}, // 0 has the text 0 alone
		{"0m", 0, false},
		{"00", 0, false},
		{"00k", 0, false},
		{"01", 0, false},
		{"01k", 0, false},
		{"007m", 0, false},
		{"1", 1, true},
		{"1k", 1000, true},
		{"1m", 1000000, true},
		{"1000", 1000, true},
		{"1000k", 1000000, true},
		{"1500k", 1500000, true},
		{"1000m", 1000000000, true},
		{"1000000k", 1000000000, true},
		{"1000000000", 1000000000, true},
		{"1001m", 0, false},
		{"1000001k", 0, false},
		{"1000000001", 0, false},
		{"9999999999", 0, false},
		{"18446744073709551616", 0, false}, // 0 if it overflowed
		{"18446744073709551617", 0, false},
		{"18446744073709551617k", 0, false},
		{"18446744073709552m", 0, false},
		{strings.Repeat("9", 4000), 0, false},
		{"1" + strings.Repeat("0", 5000), 0, false},
		{strings.Repeat("0", 5000), 0, false},
	}
	for _, s := range malformedDecimals() {
		cases = append(cases, readCase{s, 0, false})
	}
	return cases
}

// malformedDecimals are strings that have bytes out of place, not a number that is too great or a 0 that is needless.
func malformedDecimals() []string {
	return []string{
		"", "k", "m", "1K", "1M", "1g", "1kk", "1km", "1mk", "1k0", "k1", "1a", "1f", "1x",
		"+1", "-1", "-0", " 1", "1 ", "1 k", "1\n", "1_000", "1.0", "1e3", "1/", "1:",
		"\u0661", "1\u0662k", "\uff11", "1\xff", "\x001", "1\ufffd",
	}
}

// hexadecimalCases are strings with what ReadHex returns; all of them begin with 0x.
func hexadecimalCases() []readCase {
	return []readCase{
		{"0x0", 0, true},
		{"0x1", 1, true},
		{"0xa", 10, true},
		{"0xf", 15, true},
		{"0x10", 16, true},
		{"0x1000", 4096, true},
		{"0xabc", 2748, true},
		{"0xffff", 65535, true},
		{"0x10000", 0, false},
		{"0xfffff", 0, false},
		{"0x10000000000000001", 0, false}, // 1 if it overflowed
		{"0x" + strings.Repeat("f", 5000), 0, false},
		{"0x" + strings.Repeat("0", 5000), 0, false},
		{"0x", 0, false},
		{"0x00", 0, false},
		{"0x01", 0, false},
		{"0x0001", 0, false},
		{"0x0ffff", 0, false},
		{"0xA", 0, false},
		{"0xFFFF", 0, false},
		{"0xg", 0, false},
		{"0x1g", 0, false},
		{"0x1k", 0, false},
		{"0x1m", 0, false},
		{"0x 1", 0, false},
		{"0x1 ", 0, false},
		{"0x-1", 0, false},
		{"0x+1", 0, false},
		{"0x0x1", 0, false},
		{"0x\u0661", 0, false},
		{"0x1\xff", 0, false},
	}
}

func TestReadNumber(t *testing.T) {
	checkRead(t, "ReadNumber", impl.ReadNumber, decimalCases())
	for _, c := range hexadecimalCases() {
		checkRead(t, "ReadNumber", impl.ReadNumber, []readCase{{c.s, 0, false}})
	}
}

func TestReadHex(t *testing.T) {
	checkRead(t, "ReadHex", impl.ReadHex, hexadecimalCases())
	for _, c := range decimalCases() {
		checkRead(t, "ReadHex", impl.ReadHex, []readCase{{c.s, 0, false}})
	}
	checkRead(t, "ReadHex", impl.ReadHex, []readCase{{"0X1", 0, false}, {" 0x1", 0, false}, {"x1", 0, false}, {"ffff", 0, false}, {"00x1", 0, false}})
}

func TestReadAny(t *testing.T) {
	checkRead(t, "ReadAny", impl.ReadAny, decimalCases())
	checkRead(t, "ReadAny", impl.ReadAny, hexadecimalCases())
	checkRead(t, "ReadAny", impl.ReadAny, []readCase{{"0X1", 0, false}, {" 0x1", 0, false}, {"x1", 0, false}, {"ffff", 0, false}, {"00x1", 0, false}})
}

func TestIsCanonical(t *testing.T) {
	for _, c := range []struct {
		s  string
		is bool
	}{
		{"0", true},
		{"1", true},
		{"999", true},
		{"1k", true},
		{"1500", true},
		{"1500k", true},
		{"1m", true},
		{"1000m", true},
		{"1000", false},
		{"2000", false},
		{"1000k", false},
		{"1000000", false},
		{"1000000k", false},
		{"1000000000", false},
		{"1001m", false}, // not the text of a value
		{"1000000001", false},
		{"1000001k", false},
		{"0k", false},
		{"0m", false},
		{"00", false},
		{"01", false},
		{"", false},
		{"k", false},
		{"0x0", false},
		{"0x1", false},
		{"0x1000", false},
		{"1 ", false},
		{"-1", false},
	} {
		if is := impl.IsCanonical(c.s); is != c.is {
			t.Errorf("IsCanonical(%q) = %v", c.s, is)
		}
	}
}

func TestHexText(t *testing.T) {
	for _, c := range []valueText{
		{0, "0x0", true},
		{10, "0xa", true},
		{16, "0x10", true},
		{4096, "0x1000", true},
		{65535, "0xffff", true},
		{65536, "", false},
		{1000000000, "", false},
		{4294967295, "", false},
		{-1, "", false},
		{1<<63 - 1, "", false},
		{-1 << 63, "", false},
	} {
		if text, ok := impl.HexText(c.n); text != c.text || ok != c.ok {
			t.Errorf("HexText(%d) = %q, %v", c.n, text, ok)
		}
	}
}

func TestAddValues(t *testing.T) {
	for _, c := range []struct {
		list []int
		sum  int
		ok   bool
	}{
		{nil, 0, true},
		{[]int{}, 0, true},
		{[]int{0}, 0, true},
		{[]int{7}, 7, true},
		{[]int{1, 2, 3}, 6, true},
		{[]int{1000000000}, 1000000000, true},
		{[]int{1000000000, 0, 0}, 1000000000, true},
		{[]int{999999999, 1}, 1000000000, true},
		{[]int{999999999, 1, 1}, 0, false},
		{[]int{1000000000, 1}, 0, false},
		{[]int{1, 1000000000}, 0, false},
		{[]int{1000000001}, 0, false},
		{[]int{-1}, 0, false},
		{[]int{5, -1}, 0, false}, // the sum is a value, but -1 is none
		{[]int{1000000000, 1, -1}, 0, false},
		{[]int{1<<63 - 1}, 0, false},
		{[]int{1<<63 - 1, 1<<63 - 1, 2}, 0, false},
		{[]int{1, 1<<63 - 1}, 0, false},
		{[]int{-1 << 63, -1 << 63}, 0, false},
		{slices.Repeat([]int{25000000}, 40), 1000000000, true},
		{slices.Repeat([]int{0}, 40), 0, true},
		{slices.Repeat([]int{0}, 41), 0, false},
		{slices.Repeat([]int{1}, 41), 0, false},
		{withSpare([]int{1, 2}, 5), 3, true},
	} {
		if sum, ok := impl.AddValues(c.list); sum != c.sum || ok != c.ok {
			t.Errorf("AddValues(%v) = %d, %v", c.list, sum, ok)
		}
	}
}

func TestMultiplyValues(t *testing.T) {
	for _, c := range []struct {
		a, b, product int
		ok            bool
	}{
		{0, 0, 0, true},
		{0, 1000000000, 0, true},
		{1000000000, 0, 0, true},
		{6, 7, 42, true},
		{1, 1000000000, 1000000000, true},
		{1000000000, 1, 1000000000, true},
		{31622, 31623, 999982506, true},
		{31623, 31623, 0, false},
		{500000000, 2, 1000000000, true},
		{500000001, 2, 0, false},
		{1000000000, 1000000000, 0, false},
		{-1, 0, 0, false},
		{0, -1, 0, false},
		{-2, -3, 0, false},
		{1000000001, 0, 0, false},
		{0, 1000000001, 0, false},
		{1 << 32, 1 << 32, 0, false}, // 0 if it overflowed
		{-1 << 63, -1 << 63, 0, false},
	} {
		if product, ok := impl.MultiplyValues(c.a, c.b); product != c.product || ok != c.ok {
			t.Errorf("MultiplyValues(%d, %d) = %d, %v", c.a, c.b, product, ok)
		}
	}
}

func TestScaleValue(t *testing.T) {
	for _, c := range []struct {
		n, num, den int
		down, up    int
		ok          bool
	}{
		{10, 1, 3, 3, 4, true},
		{9, 1, 3, 3, 3, true},
		{0, 1, 1, 0, 0, true},
		{0, 0, 1000000, 0, 0, true},
		{5, 0, 7, 0, 0, true},
		{1, 1, 1000000, 0, 1, true},
		{1000000000, 1000000, 1000000, 1000000000, 1000000000, true},
		{1000000000, 1, 1, 1000000000, 1000000000, true},
		{1000000000, 999999, 1000000, 999999000, 999999000, true},
		{999999999, 999999, 1000000, 999998999, 999999000, true},
		{1000, 1000000, 1, 1000000000, 1000000000, true},
		{1001, 1000000, 1, 0, 0, false},
		{1000000000, 1000000, 999999, 0, 0, false},
		{1000000000, 1000000, 1, 0, 0, false},
		{-1, 1, 1, 0, 0, false},
		{1000000001, 1, 1000, 0, 0, false},
		{1, -1, 1, 0, 0, false},
		{1, 1000001, 1000, 0, 0, false},
		{0, 1000001, 1, 0, 0, false},
		{1, 1, 0, 0, 0, false},
		{0, 0, 0, 0, 0, false},
		{1, 1, -1, 0, 0, false},
		{-1, 1, -1, 0, 0, false},
		{1, 1, 1000001, 0, 0, false},
		{1 << 32, 1 << 32, 1, 0, 0, false},
		{-1 << 63, 1, -1, 0, 0, false},
	} {
		if down, ok := impl.ScaleValue(c.n, c.num, c.den, false); down != c.down || ok != c.ok {
			t.Errorf("ScaleValue(%d, %d, %d, false) = %d, %v", c.n, c.num, c.den, down, ok)
		}
		if up, ok := impl.ScaleValue(c.n, c.num, c.den, true); up != c.up || ok != c.ok {
			t.Errorf("ScaleValue(%d, %d, %d, true) = %d, %v", c.n, c.num, c.den, up, ok)
		}
	}
}

func TestScaleValueWhoseRoundingMeetsTheLimit(t *testing.T) {
	// 1999999999 halves are 999999999.5.
	if n, ok := impl.ScaleValue(64516129, 31, 2, false); n != 999999999 || !ok {
		t.Error(n, ok)
	}
	if n, ok := impl.ScaleValue(64516129, 31, 2, true); n != 1000000000 || !ok {
		t.Error(n, ok)
	}
	// 2000000001 halves are 1000000000.5, which is a value only if it is rounded down.
	if n, ok := impl.ScaleValue(666666667, 3, 2, false); n != 1000000000 || !ok {
		t.Error(n, ok)
	}
	if n, ok := impl.ScaleValue(666666667, 3, 2, true); n != 0 || ok {
		t.Error(n, ok)
	}
}

func TestCompareTexts(t *testing.T) {
	for _, c := range []struct {
		a, b  string
		order int
		ok    bool
	}{
		{"1", "2", -1, true},
		{"2", "1", 1, true},
		{"2k", "2000", 0, true},
		{"3m", "3000k", 0, true},
		{"9", "10", -1, true}, // by value, not by bytes
		{"1m", "999999", 1, true},
		{"0", "0x0", 0, true},
		{"0x1000", "4096", 0, true},
		{"0xffff", "65536", -1, true},
		{"0xffff", "65534", 1, true},
		{"1000m", "1000000000", 0, true},
		{"0", "1000m", -1, true},
		{"1", "", 0, false},
		{"", "1", 0, false},
		{"", "", 0, false},
		{"1", "x", 0, false},
		{"01", "1", 0, false},
		{"1", "0k", 0, false},
		{"0x10000", "1", 0, false},
		{"1001m", "1000m", 0, false},
		{"x", "x", 0, false},
	} {
		if order, ok := impl.CompareTexts(c.a, c.b); order != c.order || ok != c.ok {
			t.Errorf("CompareTexts(%q, %q) = %d, %v", c.a, c.b, order, ok)
		}
	}
}
