package tests

import (
	"slices"
	"strings"
	"testing"

	"loop.example/g00838/impl"
)

// Promise 10 for strings that are decoded, and for the faults of others.

// checkDecode compares what DecodeAttrs returns with a slow reading, and encodes what it accepts.
func checkDecode(t *testing.T, s string) {
	t.Helper()
	want, fault := slowDecode(s)
	l, f, ok := impl.DecodeAttrs(s)
	if !slices.Equal(l, want) || f != fault || ok != (fault == impl.Fault{}) {
		t.Fatalf("DecodeAttrs(%.200q) = %s, %v, %v and not %s, %v", s, briefly(l), f, ok, briefly(want), fault)
	}
	if !ok {
		if fits, fitsOk := impl.FaultFits(f, s[:min(len(s), impl.MaxText)]); !fits || !fitsOk {
			t.Fatalf("DecodeAttrs(%.200q) fails with %v", s, f)
		}
		return
	}
	checkAreAttrs(t, l, true)
	if form, fits := impl.EncodeAttrs(l); form != s || !fits {
		t.Fatalf("EncodeAttrs(%s) = %.200q, %v and not %.200q", briefly(l), form, fits, s)
	}
}

// checkRefused checks that a string has a fault.
func checkRefused(t *testing.T, s string, fault impl.Fault) {
	t.Helper()
	if l, f, ok := impl.DecodeAttrs(s); len(l) != 0 || f != fault || ok {
		t.Errorf("DecodeAttrs(%.200q) = %s, %v, %v and not %v", s, briefly(l), f, ok, fault)
	}
	checkDecode(t, s)
}

// inside is added to the Type of a nested attribute.
const inside = 32768

// ladderForm returns heads of nested attributes, each of which holds all bytes behind it, and then other bytes.
func ladderForm(depth int, last string) string {
	form := last
	for range depth {
		form = attrHead(4+len(form), inside) + form
	}
	return form
}

func TestFaultsOfLengths(t *testing.T) {
	for length := range 4 {
		checkRefused(t, attrHead(length, 3), faultAt(impl.ErNumber, 0))
		checkRefused(t, attrHead(length, inside+3), faultAt(impl.ErNumber, 0))
		checkRefused(t, attrHead(length, 3)+strings.Repeat("\x00", 8), faultAt(impl.ErNumber, 0))
		checkRefused(t, attrHead(4, 1)+attrHead(length, 3), faultAt(impl.ErNumber, 4))
		checkRefused(t, attrHead(8, inside)+attrHead(length, 3), faultAt(impl.ErNumber, 4))
	}
	checkForm(t, []impl.Attr{flatAttr(1, 3, "")}, attrHead(4, 3))
	checkForm(t, []impl.Attr{nestedAttr(1, 3)}, attrHead(4, inside+3))
	// The higher byte of a length counts as well.
	checkRefused(t, attrHead(256, 3), faultAt(impl.ErEnd, 0))
	checkForm(t, []impl.Attr{flatAttr(1, 3, strings.Repeat("a", 252))}, attrHead(256, 3)+strings.Repeat("a", 252))
}

func TestFaultsOfEnds(t *testing.T) {
	for _, x := range []struct {
		s  string
		at int
	}{
		// Fewer than four bytes are left at the end of the string.
		{"\x00", 0}, {"\x04\x00", 0}, {"\x04\x00\x01", 0}, {"\xff\xff\xff", 0},
		{attrHead(4, 1) + "\x00", 4}, {attrHead(4, 1) + "\x04\x00", 4}, {attrHead(4, 1) + "\x04\x00\x01", 4},
		{attrHead(6, 1) + "ab\x00\x00" + "\x00\x00\x00", 8},
		// Fewer than four bytes are left at the end of a nested attribute.
		{attrHead(5, inside) + "\x04\x00\x00\x00", 4}, {attrHead(6, inside) + "\x04\x00\x00\x00", 4}, {attrHead(7, inside) + "\x04\x00\x00\x00", 4},
		{attrHead(9, inside) + attrHead(4, 1) + "\x04\x00\x00\x00", 8}, {attrHead(11, inside) + attrHead(4, 1) + "\x04\x00\x01\x00", 8},
		{attrHead(16, inside) + attrHead(10, inside) + attrHead(4, 1) + "\x04\x00\x00\x00", 12},
		// A length goes beyond the end of the string.
		{attrHead(5, 1), 0}, {attrHead(8, 1), 0}, {attrHead(8, inside), 0}, {attrHead(9, 1) + "abcd", 0}, {attrHead(12, inside) + attrHead(4, 1), 0},
		{attrHead(4, 1) + attrHead(8, 1) + "abc", 4}, {attrHead(65535, 1) + "abcd", 0}, {attrHead(65532, inside) + "abcd", 0}, {attrHead(32768, 1), 0},
		{attrHead(1004, 1) + strings.Repeat("a", 999), 0},
		// A length goes beyond the end of the nested attribute around it.
		{attrHead(8, inside) + attrHead(5, 1) + "a\x00\x00\x00", 4}, {attrHead(8, inside) + attrHead(8, 1) + "abcd", 4},
		{attrHead(8, inside) + attrHead(8, inside) + attrHead(4, 1), 4}, {attrHead(8, inside) + attrHead(65535, 1) + "abcd", 4},
		{attrHead(16, inside) + attrHead(4, 1) + attrHead(9, 1) + "abcde\x00\x00\x00", 8},
		{attrHead(16, inside) + attrHead(8, inside) + attrHead(8, 1) + "abcd", 8},
		// The zero bytes go beyond the end of the string.
		{attrHead(5, 1) + "a", 0}, {attrHead(5, 1) + "a\x00", 0}, {attrHead(5, 1) + "a\x00\x00", 0}, {attrHead(6, 1) + "ab", 0},
		{attrHead(7, 1) + "abc", 0}, {attrHead(6, inside) + "ab", 0}, {attrHead(4, 1) + attrHead(7, 1) + "abc", 4},
		{attrHead(10, inside) + attrHead(4, 1) + "ab", 0},
		// The zero bytes go beyond the end of the nested attribute around it.
		{attrHead(9, inside) + attrHead(5, 1) + "a\x00\x00\x00", 4}, {attrHead(10, inside) + attrHead(6, 1) + "ab\x00\x00", 4},
		{attrHead(11, inside) + attrHead(7, 1) + "abc\x00", 4}, {attrHead(14, inside) + attrHead(10, inside) + attrHead(4, 1) + "ab\x00\x00", 4}, {attrHead(11, inside) + attrHead(5, inside) + "a\x00\x00\x00", 4},
	} {
		checkRefused(t, x.s, faultAt(impl.ErEnd, x.at))
	}
	checkForm(t, []impl.Attr{nestedAttr(1, 0), flatAttr(2, 1, "abc")}, attrHead(12, inside)+attrHead(7, 1)+"abc\x00")
}

func TestFaultsOfZeroBytes(t *testing.T) {
	for _, x := range []struct {
		data  string
		zeros int
	}{{"a", 3}, {"ab", 2}, {"abc", 1}, {"\x00", 3}, {"abcde", 3}, {"abcdef", 2}, {"abcdefg", 1}} {
		form, around := attrHead(4+len(x.data), 1)+x.data, 4+len(x.data)+x.zeros
		checkForm(t, []impl.Attr{flatAttr(1, 1, x.data)}, form+strings.Repeat("\x00", x.zeros))
		for k := range x.zeros {
			for _, dirt := range []string{"\x01", "\x80", "\xff", "0"} {
				// The bytes behind the first one that is not zero do not matter.
				for _, rest := range []string{strings.Repeat("\x00", x.zeros), strings.Repeat("\x01", x.zeros)} {
					dirty := form + (strings.Repeat("\x00", k) + dirt + rest)[:x.zeros]
					checkRefused(t, dirty, faultAt(impl.ErByte, len(form)+k))
					checkRefused(t, attrHead(4, 2)+dirty+attrHead(3, 1), faultAt(impl.ErByte, 4+len(form)+k))
					checkRefused(t, attrHead(4+around, inside)+dirty, faultAt(impl.ErByte, 4+len(form)+k))
				}
			}
		}
	}
	// They come before what is in a nested attribute.
	checkRefused(t, attrHead(6, inside)+"\x00\x00"+"\x00\x00", faultAt(impl.ErEnd, 4))
	checkRefused(t, attrHead(6, inside)+"\x00\x00"+"\x00\x01", faultAt(impl.ErByte, 7))
	checkRefused(t, attrHead(10, inside)+attrHead(3, 1)+"\x00\x00"+"\x00\x00", faultAt(impl.ErNumber, 4))
	checkRefused(t, attrHead(10, inside)+attrHead(3, 1)+"\x00\x00"+"\x01\x00", faultAt(impl.ErByte, 10))
	checkRefused(t, attrHead(13, inside)+attrHead(5, 1)+"a\x01\x00\x00"+"\x00\x00\x00\x01", faultAt(impl.ErByte, 15))
	checkRefused(t, attrHead(16, inside)+attrHead(5, 1)+"a\x01\x00\x00"+attrHead(5, 1), faultAt(impl.ErByte, 9))
}

func TestFaultsOfData(t *testing.T) {
	thousand := strings.Repeat("a", 1000)
	checkForm(t, []impl.Attr{flatAttr(1, 1, thousand)}, attrHead(1004, 1)+thousand)
	checkRefused(t, attrHead(1005, 1)+thousand+"a\x00\x00\x00", faultAt(impl.ErCount, 0))
	checkRefused(t, attrHead(1008, 1)+thousand+"abcd", faultAt(impl.ErCount, 0))
	checkRefused(t, attrHead(6000, 1)+strings.Repeat("a", 5996), faultAt(impl.ErCount, 0))
	checkRefused(t, attrHead(4, 1)+attrHead(1008, 1)+thousand+"abcd", faultAt(impl.ErCount, 4))
	checkRefused(t, attrHead(1012, inside)+attrHead(1005, 1)+thousand+"a\x00\x00\x00", faultAt(impl.ErCount, 4))
	// Too much Data beyond the end, and with zero bytes that are none.
	checkRefused(t, attrHead(1008, 1)+thousand+"abc", faultAt(impl.ErEnd, 0))
	checkRefused(t, attrHead(1005, 1)+thousand+"a\x00\x00\x01", faultAt(impl.ErCount, 0))
	// What is in a nested attribute may have more bytes.
	two := []impl.Attr{nestedAttr(1, 0), flatAttr(2, 1, thousand), flatAttr(2, 2, "a")}
	checkForm(t, two, attrHead(1016, inside)+attrHead(1004, 1)+thousand+attrHead(5, 2)+"a\x00\x00\x00")
	checkForm(t, append([]impl.Attr{nestedAttr(1, 0)}, slices.Repeat([]impl.Attr{flatAttr(2, 1, "")}, 300)...), attrHead(1204, inside)+strings.Repeat(attrHead(4, 1), 300))
}

func TestFaultsOfDepths(t *testing.T) {
	checkForm(t, nestedLadder(1), ladderForm(1, ""))
	for depth := 1; depth <= 8; depth++ {
		l, fault, ok := impl.DecodeAttrs(ladderForm(depth, ""))
		if len(l) != depth || fault != (impl.Fault{}) || !ok || l[depth-1] != nestedAttr(depth, 0) {
			t.Errorf("DecodeAttrs of %d nested attributes = %v, %v, %v", depth, l, fault, ok)
		}
		checkDecode(t, ladderForm(depth, attrHead(4, 1)))
	}
	// Whatever stands at the beginning of one of Depth 9.
	for _, last := range []string{
		attrHead(4, 1), attrHead(4, inside), "\x00", "\x04\x00", "\x04\x00\x01", attrHead(3, 1), attrHead(8, 1), attrHead(65535, inside),
		attrHead(5, 1) + "a\x01\x01\x01", attrHead(1008, 1) + strings.Repeat("a", 1004),
	} {
		form := ladderForm(8, last)
		for len(form)%4 != 0 {
			form += "\x00"
		}
		checkDecode(t, form)
		if len(last)%4 == 0 {
			checkRefused(t, form, faultAt(impl.ErDepth, 32))
			checkRefused(t, attrHead(4, 1)+form, faultAt(impl.ErDepth, 36))
		}
		// The eighth one alone may have a length that is no multiple of four.
		eight := ladderForm(7, attrHead(4+len(last), inside)+last+strings.Repeat("\x00", (4-len(last)%4)%4))
		checkRefused(t, eight, faultAt(impl.ErDepth, 32))
	}
	checkRefused(t, ladderForm(9, ""), faultAt(impl.ErDepth, 32))
	checkRefused(t, ladderForm(20, ""), faultAt(impl.ErDepth, 32))
	checkRefused(t, ladderForm(1500, ""), faultAt(impl.ErDepth, 32))
	checkRefused(t, ladderForm(8, "")+ladderForm(9, ""), faultAt(impl.ErDepth, 64))
}

func TestFaultsOfCounts(t *testing.T) {
	flat := attrHead(4, 7)
	checkForm(t, flatAttrs(400), strings.Repeat(flat, 400))
	for _, last := range []string{
		flat, "\x00", "\x04\x00", "\x04\x00\x07", attrHead(3, 1), attrHead(0, 1), attrHead(8, 1), attrHead(65535, inside),
		attrHead(5, 1) + "a\x01\x01\x01", attrHead(1008, 1) + strings.Repeat("a", 1004), ladderForm(9, ""), strings.Repeat(flat, 1100),
	} {
		checkRefused(t, strings.Repeat(flat, 400)+last, faultAt(impl.ErCount, 1600))
		// The nested one and 399 others come before it.
		if len(last)%4 == 0 {
			form := strings.Repeat(flat, 399) + last
			checkRefused(t, attrHead(4+len(form), inside)+form, faultAt(impl.ErCount, 1600))
		}
	}
	checkRefused(t, strings.Repeat(flat, 401), faultAt(impl.ErCount, 1600))
	checkRefused(t, strings.Repeat(flat, 1500), faultAt(impl.ErCount, 1600))
	checkDecode(t, strings.Repeat(flat, 392)+ladderForm(8, ""))
	checkRefused(t, strings.Repeat(flat, 393)+ladderForm(8, ""), faultAt(impl.ErCount, 1600))
	// Of the two faults at one place, this one is the first.
	checkRefused(t, strings.Repeat(flat, 392)+ladderForm(9, ""), faultAt(impl.ErDepth, 1600))
	checkRefused(t, strings.Repeat(flat, 393)+ladderForm(9, ""), faultAt(impl.ErCount, 1600))
	checkRefused(t, strings.Repeat(flat, 391)+ladderForm(9, ""), faultAt(impl.ErDepth, 1596))
}

func TestFaultsOfTooManyBytes(t *testing.T) {
	form, _ := impl.EncodeAttrs(attrsOfSize(6000))
	checkForm(t, attrsOfSize(6000), form)
	for _, s := range []string{
		form + "\x00", form + attrHead(4, 1), attrHead(4, 1) + form, attrHead(3, 1) + form, strings.Repeat("\x00", 6001), strings.Repeat("\xff", 6001),
		strings.Repeat("\x00", 5000000), ladderForm(1501, ""), string(noise(6001, 5)),
	} {
		checkRefused(t, s, faultAt(impl.ErCount, 0))
	}
	checkRefused(t, strings.Repeat("\x00", 6000), faultAt(impl.ErNumber, 0))
	checkRefused(t, form[:5999], faultAt(impl.ErEnd, 5020))
	checkRefused(t, form[:5996]+"\x00\x00\x00", faultAt(impl.ErEnd, 5020))
	// The last place where a fault can be.
	last, _ := impl.EncodeAttrs(append(attrsOfSize(5992), flatAttr(1, 1, "abc")))
	checkRefused(t, last[:5999]+"\x01", faultAt(impl.ErByte, 5999))
	checkRefused(t, form[:5020]+attrHead(979, 9)+form[5024:5999]+"\x05", faultAt(impl.ErByte, 5999))
}

func TestTheFirstOfSeveralFaults(t *testing.T) {
	faulty := []struct {
		form string
		kind int
		at   int
	}{
		{attrHead(3, 1), impl.ErNumber, 0},
		{attrHead(5, 1) + "a\x00\x00\x01", impl.ErByte, 7},
		{attrHead(1008, 1) + strings.Repeat("a", 1004), impl.ErCount, 0},
		{ladderForm(9, ""), impl.ErDepth, 32},
		{attrHead(8, inside) + attrHead(8, 1), impl.ErEnd, 4},
		{attrHead(5, inside) + "a\x00\x00\x00", impl.ErEnd, 4},
		{attrHead(65535, 1), impl.ErEnd, 0},
	}
	for _, first := range faulty {
		checkRefused(t, first.form, faultAt(first.kind, first.at))
		for _, second := range faulty {
			if first.form != attrHead(65535, 1) {
				checkRefused(t, first.form+second.form, faultAt(first.kind, first.at))
			}
			checkRefused(t, familyForm+first.form+second.form, faultAt(first.kind, len(familyForm)+first.at))
		}
	}
}

func TestDecodeAttrs(t *testing.T) {
	checkForm(t, nil, "")
	checkForm(t, family(), familyForm)
	if l, f, ok := impl.DecodeAttrs(""); len(l) != 0 || f != (impl.Fault{}) || !ok {
		t.Errorf("DecodeAttrs of nothing = %v, %v, %v", l, f, ok)
	}
	// All Types, nested and not.
	for kind := range 65536 {
		l, _, ok := impl.DecodeAttrs(attrHead(4, kind))
		want := flatAttr(1, kind, "")
		if kind >= inside {
			want = nestedAttr(1, kind-inside)
		}
		if len(l) != 1 || l[0] != want || !ok {
			t.Fatalf("DecodeAttrs of the type %d = %v, %v", kind, l, ok)
		}
	}
}

func TestPromise10AcceptedStringsAreTheirOwnEncodings(t *testing.T) {
	for size := range 7 {
		eachForm("\x00\x01\x04\x05\x08\x80", make([]byte, size), 0, func(s string) { checkDecode(t, s) })
	}
	for _, size := range []int{8, 12} {
		eachForm("\x00\x04\x08\x0c", make([]byte, size), 0, func(s string) { checkDecode(t, s) })
	}
}

// eachForm uses each string that has bytes of an alphabet from an index on, but 0 or 128 at every odd one, as short forms have in the higher bytes of their numbers.
func eachForm(letters string, s []byte, at int, use func(s string)) {
	if at == len(s) {
		use(string(s))
		return
	}
	choice := letters
	if at%2 == 1 {
		choice = "\x00\x80"
	}
	for i := range choice {
		s[at] = choice[i]
		eachForm(letters, s, at+1, use)
	}
}

func TestPromise10EveryByteOfABinaryFormCounts(t *testing.T) {
	forms := []string{familyForm, ladderForm(8, ""), ladderForm(7, attrHead(5, 1)+"a\x00\x00\x00"), strings.Repeat(attrHead(7, 2)+"abc\x00", 3)}
	for _, form := range forms {
		for at := range form {
			checkDecode(t, form[:at])
			checkDecode(t, form[at:])
			checkDecode(t, form[:at]+form[at+1:])
			checkDecode(t, form[:at]+"\x00"+form[at:])
			for with := range 256 {
				checkDecode(t, form[:at]+string([]byte{byte(with)})+form[at+1:])
			}
		}
	}
}

func TestPromise10SpoiledForms(t *testing.T) {
	for seed := range 600 {
		form := slowEncode(randomAttrs(seed)).form
		dice := diceFor(5000 + seed)
		for range 40 {
			checkDecode(t, spoiledForm(dice, form))
		}
	}
	for seed := range uint32(1000) {
		checkDecode(t, string(noise(int(seed%64), seed)))
	}
}
