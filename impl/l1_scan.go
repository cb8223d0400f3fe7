package impl

import "strings"

// MaxBytes is the maximum number of bytes of a list of bytes and of a text.
const MaxBytes = 4000

const (
	maxUnaligned     = 1000000
	maxAlignment     = 16
	maxDecimal       = 1000000000
	maxDecimalDigits = 10
	maxHex           = 4294967295
	maxHexDigits     = 8
	maxSum           = 65535
	hexPrefix        = "0x"
)

// The rows of digits.
const (
	decimal = iota
	hexadecimal
)

// digits holds the digits of each base in the order of their values, so that a row's length is its base.
var digits = [...]string{
	decimal:     "0123456789",
	hexadecimal: "0123456789abcdef",
}

// ReadLittle returns the number of a width whose bytes begin at an index, the lowest one first.
func ReadLittle(data []byte, at int, width int) (int, bool) {
	// The last index is computed from the length because at + width might overflow.
	if !areBytes(data) || !isWidth(width) || at < 0 || at > len(data)-width {
		return 0, false
	}
	n := 0
	for i := range width {
		n |= int(data[at+i]) << (8 * i)
	}
	return n, true
}

// WriteLittle returns the bytes of a number of a width, the lowest one first.
func WriteLittle(n int, width int) ([]byte, bool) {
	if !isWidth(width) || n < 0 || n>>(8*width) != 0 {
		return nil, false
	}
	data := make([]byte, width)
	for i := range data {
		data[i] = byte(n >> (8 * i))
	}
	return data, true
}

// AlignUp returns the least multiple of a number in 1..16 that is at least n, in 0..1000000.
func AlignUp(n int, by int) (int, bool) {
	if n < 0 || n > maxUnaligned || by < 1 || by > maxAlignment {
		return 0, false
	}
	return (n + by - 1) / by * by, true
}

// PadTo returns the bytes, followed by as few bytes 0 as make their number a multiple of a number in 1..16.
func PadTo(data []byte, by int) ([]byte, bool) {
	size, ok := AlignUp(len(data), by)
	if !ok || size > MaxBytes {
		return nil, false
	}
	padded := make([]byte, size)
	copy(padded, data)
	return padded, true
}

// IsPadded reports whether all bytes with indices from..to-1 are 0, for 0 <= from <= to <= len(data).
func IsPadded(data []byte, from int, to int) (bool, bool) {
	if !areBytes(data) || from < 0 || from > to || to > len(data) {
		return false, false
	}
	for i := from; i < to; i++ {
		if data[i] != 0 {
			return false, true
		}
	}
	return true, true
}

// DecimalAt returns the number that begins at an index of a text, in decimal, as long as digits follow, and the index behind it.
func DecimalAt(s string, at int) (int, int, bool) {
	if !isText(s) || at < 0 || at > len(s) {
		return 0, 0, false
	}
	end := digitsEnd(s, at, decimal)
	count := end - at
	// The digits are counted first because the value of too many of them might overflow.
	if count == 0 || count > maxDecimalDigits || count > 1 && s[at] == '0' {
		return 0, 0, false
	}
	n := digitsValue(s[at:end], decimal)
	if n > maxDecimal {
		return 0, 0, false
	}
	return n, end, true
}

// HexAt returns the number that begins at an index of a text with 0x, followed by 1 to 8 digits 0 to 9 and a to f, as long as such digits follow, and the index behind it.
func HexAt(s string, at int) (int, int, bool) {
	if !isText(s) || at < 0 || at > len(s) || !strings.HasPrefix(s[at:], hexPrefix) {
		return 0, 0, false
	}
	start := at + len(hexPrefix)
	end := digitsEnd(s, start, hexadecimal)
	if end == start || end-start > maxHexDigits {
		return 0, 0, false
	}
	return digitsValue(s[start:end], hexadecimal), end, true
}

// HexOf returns the text of a number in 0..4294967295 in this form, without needless digits 0.
func HexOf(n int) (string, bool) {
	if n < 0 || n > maxHex {
		return "", false
	}
	count := 1
	for n>>(4*count) != 0 {
		count++
	}
	text := []byte(hexPrefix)
	for i := count - 1; i >= 0; i-- {
		text = append(text, lowHexDigit(n>>(4*i)))
	}
	return string(text), true
}

// ChecksumOf returns 65535 minus the folded sum of all numbers of two bytes.
func ChecksumOf(data []byte) (int, bool) {
	if !areBytes(data) {
		return 0, false
	}
	sum := 0
	for i := 0; i < len(data); i += 2 {
		sum += int(data[i]) << 8
		if i+1 < len(data) {
			sum += int(data[i+1])
		}
		if sum > maxSum {
			sum -= maxSum
		}
	}
	return maxSum - sum, true
}

// BytesText returns two digits 0 to 9 and a to f for each byte, the higher one first.
func BytesText(data []byte) (string, bool) {
	if !areBytes(data) {
		return "", false
	}
	text := make([]byte, 0, 2*len(data))
	for _, b := range data {
		text = append(text, lowHexDigit(int(b>>4)), lowHexDigit(int(b)))
	}
	return string(text), true
}

// ParseBytes returns the bytes with the given BytesText.
func ParseBytes(s string) ([]byte, bool) {
	if len(s) > 2*MaxBytes || len(s)%2 != 0 || digitsEnd(s, 0, hexadecimal) != len(s) {
		return nil, false
	}
	data := make([]byte, len(s)/2)
	for i := range data {
		data[i] = byte(digitsValue(s[2*i:2*i+2], hexadecimal))
	}
	return data, true
}

// FirstBad returns the index of the first byte that may not be in a text, or the number of bytes.
func FirstBad(s string) (int, bool) {
	if !isText(s) {
		return 0, false
	}
	at := 0
	for at < len(s) && isPlain(s[at]) {
		at++
	}
	return at, true
}

// areBytes reports whether bytes are valid.
func areBytes(data []byte) bool {
	return len(data) <= MaxBytes
}

// isText reports whether a text is valid, which does not depend on its bytes being plain.
func isText(s string) bool {
	return len(s) <= MaxBytes
}

// isWidth reports whether a width is valid.
func isWidth(width int) bool {
	return width == 1 || width == 2 || width == 4
}

// isPlain reports whether a byte is none that FirstBad stops at.
func isPlain(b byte) bool {
	return b >= 32 && b <= 126 || b == '\t' || b == '\n'
}

// digitsEnd returns the first index from an index on where there is no digit of a row of digits.
func digitsEnd(s string, at int, row int) int {
	for at < len(s) && strings.IndexByte(digits[row], s[at]) >= 0 {
		at++
	}
	return at
}

// digitsValue returns the number that digits of a row stand for, in the base that is its length.
func digitsValue(s string, row int) int {
	n := 0
	for i := range len(s) {
		n = n*len(digits[row]) + strings.IndexByte(digits[row], s[i])
	}
	return n
}

// lowHexDigit returns the last hexadecimal digit of a number that is not negative.
func lowHexDigit(n int) byte {
	return digits[hexadecimal][n&15]
}
