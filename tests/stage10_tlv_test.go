package tests

import (
	"slices"
	"strings"
	"testing"

	"loop.example/g00838/impl"
)

// Promise 10 for attributes, their binary form, and places in it.

// checkAreAttrs compares what AreAttrs says of attributes.
func checkAreAttrs(t *testing.T, l []impl.Attr, want bool) {
	t.Helper()
	if is := impl.AreAttrs(l); is != want {
		t.Errorf("AreAttrs(%s) = %v", briefly(l), is)
	}
}

// checkForm compares the binary form of attributes with a string, which is read back.
func checkForm(t *testing.T, l []impl.Attr, form string) {
	t.Helper()
	if got, ok := impl.EncodeAttrs(l); got != form || !ok {
		t.Fatalf("EncodeAttrs(%s) = %.200q, %v and not %.200q", briefly(l), got, ok, form)
	}
	if got, f, ok := impl.DecodeAttrs(form); !slices.Equal(got, l) || f != (impl.Fault{}) || !ok {
		t.Fatalf("DecodeAttrs(%.200q) = %s, %v, %v", form, briefly(got), f, ok)
	}
}

// checkPlace compares the size and the offset of an attribute.
func checkPlace(t *testing.T, l []impl.Attr, i, size, offset int, ok bool) {
	t.Helper()
	if n, gotOk := impl.SizeOf(l, i); n != size || gotOk != ok {
		t.Errorf("SizeOf(%s, %d) = %d, %v and not %d, %v", briefly(l), i, n, gotOk, size, ok)
	}
	if at, gotOk := impl.OffsetOf(l, i); at != offset || gotOk != ok {
		t.Errorf("OffsetOf(%s, %d) = %d, %v and not %d, %v", briefly(l), i, at, gotOk, offset, ok)
	}
}

// checkNoForm checks that attributes have no binary form and no places in it.
func checkNoForm(t *testing.T, l []impl.Attr) {
	t.Helper()
	if got, ok := impl.EncodeAttrs(l); got != "" || ok {
		t.Errorf("EncodeAttrs(%s) = %.200q, %v", briefly(l), got, ok)
	}
	for _, i := range []int{-1, 0, len(l) / 2, len(l) - 1, len(l)} {
		checkPlace(t, l, i, 0, 0, false)
	}
}

// checkEncoding compares all that is said of the binary form of valid attributes with what is written slowly.
func checkEncoding(t *testing.T, l []impl.Attr) {
	t.Helper()
	want := slowEncode(l)
	if len(want.form) > 6000 {
		checkNoForm(t, l)
		return
	}
	checkForm(t, l, want.form)
	for i := range l {
		checkPlace(t, l, i, want.sizes[i], want.offsets[i], true)
	}
	checkPlace(t, l, -1, 0, 0, false)
	checkPlace(t, l, len(l), 0, 0, false)
}

// checkAnyAttrs compares all answers about attributes, valid or not, with slow ones.
func checkAnyAttrs(t *testing.T, l []impl.Attr) {
	t.Helper()
	valid := slowAreAttrs(l)
	checkAreAttrs(t, l, valid)
	if valid {
		checkEncoding(t, l)
		checkAttrWalk(t, l)
		checkEdits(t, l)
	} else {
		checkNoForm(t, l)
		checkNoAttrWalk(t, l)
	}
}

func TestAreAttrs(t *testing.T) {
	flat, nested := flatAttr(1, 1, ""), nestedAttr(1, 1)
	for _, l := range [][]impl.Attr{
		nil, {}, {flat}, {nested}, flatAttrs(400), deeperAttrs(flatAttrs(399), nested), nestedLadder(8), family(),
		{nested, flatAttr(2, 1, "")}, {nested, nestedAttr(2, 1)}, {nested, flat}, {nested, nested}, {flat, nested},
		// Back by several Depths at once.
		append(nestedLadder(8), flat), append(nestedLadder(8), flatAttr(8, 1, ""), flatAttr(3, 1, ""), nestedAttr(3, 1), flatAttr(4, 1, "")),
		{flatAttr(1, 0, "")}, {flatAttr(1, 32767, "")}, {nestedAttr(1, 0)}, {nestedAttr(1, 32767)},
		{flatAttr(1, 1, strings.Repeat("a", 1000))}, slices.Repeat([]impl.Attr{flatAttr(1, 1, strings.Repeat("a", 1000))}, 400),
	} {
		checkAreAttrs(t, l, true)
	}
	for _, l := range [][]impl.Attr{
		flatAttrs(401), deeperAttrs(flatAttrs(400), nested), {{}},
		// First Depths.
		{flatAttr(0, 1, "")}, {flatAttr(-1, 1, "")}, {flatAttr(2, 1, "")}, {nestedAttr(2, 1)}, {nestedAttr(8, 1)}, {nestedAttr(9, 1)},
		// Further Depths.
		{flat, flatAttr(2, 1, "")}, {flat, nestedAttr(2, 1)}, {nested, flatAttr(3, 1, "")}, {nested, flatAttr(0, 1, "")},
		{nested, flatAttr(2, 1, ""), flatAttr(3, 1, "")}, append(nestedLadder(8), flatAttr(9, 1, "")), append(nestedLadder(8), nestedAttr(9, 1)),
		append(nestedLadder(3), flatAttr(5, 1, "")), append(nestedLadder(3), flat, flatAttr(2, 1, "")), append(nestedLadder(3), flatAttr(-3, 1, "")),
		// Types.
		{flatAttr(1, -1, "")}, {flatAttr(1, 32768, "")}, {nestedAttr(1, -1)}, {nestedAttr(1, 32768)}, {flat, flatAttr(1, 65536, "")},
		// Data.
		{flatAttr(1, 1, strings.Repeat("a", 1001))}, {flat, flatAttr(1, 1, strings.Repeat("a", 1001))},
		{{Depth: 1, Type: 1, Nested: true, Data: "a"}}, {flat, {Depth: 1, Type: 1, Nested: true, Data: "\x00"}},
		{{Depth: 1, Nested: true, Data: strings.Repeat("a", 1000)}}, {{Depth: 1, Type: 1, Nested: true, Data: "a"}, flatAttr(2, 1, "")},
	} {
		checkAreAttrs(t, l, false)
		checkAnyAttrs(t, l)
	}
}

func TestEncodeAttrs(t *testing.T) {
	thousand := strings.Repeat("a", 1000)
	for _, x := range []struct {
		attrs []impl.Attr
		form  string
	}{
		{nil, ""},
		{[]impl.Attr{}, ""},
		{family(), familyForm},
		// Zero bytes behind each number of bytes of Data.
		{[]impl.Attr{flatAttr(1, 3, "")}, "\x04\x00\x03\x00"},
		{[]impl.Attr{flatAttr(1, 3, "a")}, "\x05\x00\x03\x00a\x00\x00\x00"},
		{[]impl.Attr{flatAttr(1, 3, "ab")}, "\x06\x00\x03\x00ab\x00\x00"},
		{[]impl.Attr{flatAttr(1, 3, "abc")}, "\x07\x00\x03\x00abc\x00"},
		{[]impl.Attr{flatAttr(1, 3, "abcd")}, "\x08\x00\x03\x00abcd"},
		{[]impl.Attr{flatAttr(1, 3, "abcde")}, "\x09\x00\x03\x00abcde\x00\x00\x00"},
		{[]impl.Attr{flatAttr(1, 3, "\x00")}, "\x05\x00\x03\x00\x00\x00\x00\x00"},
		{[]impl.Attr{flatAttr(1, 3, "\xff\xfe")}, "\x06\x00\x03\x00\xff\xfe\x00\x00"},
		{[]impl.Attr{flatAttr(1, 3, thousand)}, "\xec\x03\x03\x00" + thousand},
		{[]impl.Attr{flatAttr(1, 3, thousand[:999])}, "\xeb\x03\x03\x00" + thousand[:999] + "\x00"},
		{[]impl.Attr{flatAttr(1, 3, thousand[:252])}, "\x00\x01\x03\x00" + thousand[:252]},
		// Types.
		{[]impl.Attr{flatAttr(1, 0, "")}, "\x04\x00\x00\x00"},
		{[]impl.Attr{flatAttr(1, 258, "")}, "\x04\x00\x02\x01"},
		{[]impl.Attr{flatAttr(1, 32767, "")}, "\x04\x00\xff\x7f"},
		{[]impl.Attr{nestedAttr(1, 0)}, "\x04\x00\x00\x80"},
		{[]impl.Attr{nestedAttr(1, 258)}, "\x04\x00\x02\x81"},
		{[]impl.Attr{nestedAttr(1, 32767)}, "\x04\x00\xff\xff"},
		// Nested ones: with no children, with those of one Depth, and down to MaxNest.
		{[]impl.Attr{nestedAttr(1, 1), nestedAttr(1, 2)}, "\x04\x00\x01\x80\x04\x00\x02\x80"},
		{[]impl.Attr{nestedAttr(1, 1), nestedAttr(2, 2)}, "\x08\x00\x01\x80\x04\x00\x02\x80"},
		{[]impl.Attr{nestedAttr(1, 1), flatAttr(2, 2, "a"), flatAttr(2, 3, "")}, "\x10\x00\x01\x80\x05\x00\x02\x00a\x00\x00\x00\x04\x00\x03\x00"},
		{[]impl.Attr{nestedAttr(1, 1), flatAttr(2, 2, "a"), flatAttr(1, 3, "")}, "\x0c\x00\x01\x80\x05\x00\x02\x00a\x00\x00\x00\x04\x00\x03\x00"},
		{
			append(nestedLadder(8), flatAttr(1, 8, "")),
			"\x20\x00\x00\x80\x1c\x00\x01\x80\x18\x00\x02\x80\x14\x00\x03\x80\x10\x00\x04\x80\x0c\x00\x05\x80\x08\x00\x06\x80\x04\x00\x07\x80\x04\x00\x08\x00",
		},
		{
			append(nestedLadder(7), flatAttr(8, 7, "a"), flatAttr(4, 8, "")),
			"\x28\x00\x00\x80\x24\x00\x01\x80\x20\x00\x02\x80\x18\x00\x03\x80\x14\x00\x04\x80\x10\x00\x05\x80\x0c\x00\x06\x80\x05\x00\x07\x00a\x00\x00\x00\x04\x00\x08\x00",
		},
		// As many attributes as there may be.
		{flatAttrs(400), strings.Repeat("\x04\x00\x07\x00", 400)},
		{deeperAttrs(flatAttrs(399), nestedAttr(1, 1)), "\x40\x06\x01\x80" + strings.Repeat("\x04\x00\x07\x00", 399)},
	} {
		checkForm(t, x.attrs, x.form)
		checkEncoding(t, x.attrs)
	}
}

func TestBinaryFormsOfExactlyMaxBinaryBytes(t *testing.T) {
	for _, x := range []struct {
		attrs []impl.Attr
		fits  bool
	}{
		{attrsOfSize(5996), true},
		{attrsOfSize(6000), true},
		{attrsOfSize(6004), false},
		{deeperAttrs(attrsOfSize(5996), nestedAttr(1, 1)), true},
		{deeperAttrs(attrsOfSize(6000), nestedAttr(1, 1)), false},
		{append(attrsOfSize(5996), nestedAttr(1, 1)), true},
		{append(attrsOfSize(6000), nestedAttr(1, 1)), false},
		// The zero bytes count as well.
		{append(attrsOfSize(5992), flatAttr(1, 1, "a")), true},
		{append(attrsOfSize(5992), flatAttr(1, 1, "abcd")), true},
		{append(attrsOfSize(5992), flatAttr(1, 1, "abcde")), false},
		{append(attrsOfSize(5996), flatAttr(1, 1, "a")), false},
		{slices.Repeat([]impl.Attr{flatAttr(1, 1, "01234567890")}, 375), true},
		{slices.Repeat([]impl.Attr{flatAttr(1, 1, "01234567890")}, 376), false},
		{slices.Repeat([]impl.Attr{flatAttr(1, 1, strings.Repeat("a", 1000))}, 400), false},
	} {
		checkAreAttrs(t, x.attrs, true)
		form, ok := impl.EncodeAttrs(x.attrs)
		if ok != x.fits || len(form) > 6000 {
			t.Errorf("EncodeAttrs(%s) = %d bytes, %v", briefly(x.attrs), len(form), ok)
		}
		checkEncoding(t, x.attrs)
	}
	if form, ok := impl.EncodeAttrs(attrsOfSize(6000)); len(form) != 6000 || !ok {
		t.Errorf("EncodeAttrs = %d bytes, %v", len(form), ok)
	}
}

func TestSizesAndOffsets(t *testing.T) {
	sizes := []int{36, 8, 16, 12, 8, 8, 4, 28, 8, 16, 12, 8}
	offsets := []int{0, 4, 12, 16, 20, 28, 36, 40, 44, 52, 56, 68}
	for i, size := range sizes {
		checkPlace(t, family(), i, size, offsets[i], true)
		// The length that stands there is the size without the zero bytes.
		if n := slowPair(familyForm, offsets[i]); n > size || n <= size-4 {
			t.Errorf("the length at %d is %d", offsets[i], n)
		}
	}
	for i := range 8 {
		checkPlace(t, nestedLadder(8), i, 32-4*i, 4*i, true)
	}
	for i := range 400 {
		checkPlace(t, flatAttrs(400), i, 4, 4*i, true)
	}
	checkPlace(t, attrsOfSize(6000), 5, 980, 5020, true)
	// Attributes that would fit by themselves have no place where all of them do not fit.
	for i := range 6 {
		checkPlace(t, attrsOfSize(6004), i, 0, 0, false)
	}
	for _, i := range slices.Concat(extremes[:6], []int{12, 13, 400, 1 << 32, 1<<63 - 1}) {
		checkPlace(t, family(), i, 0, 0, false)
		checkPlace(t, nil, i, 0, 0, false)
	}
	checkPlace(t, nil, 0, 0, 0, false)
}

func TestPromise10EncodingsAreDecoded(t *testing.T) {
	fit := 0
	for _, l := range sampleAttrs() {
		checkAnyAttrs(t, l)
		if form, ok := impl.EncodeAttrs(l); ok {
			fit++
			if got, f, gotOk := impl.DecodeAttrs(form); !slices.Equal(got, l) || f != (impl.Fault{}) || !gotOk {
				t.Fatalf("DecodeAttrs(%.200q) = %s, %v, %v", form, briefly(got), f, gotOk)
			}
		}
	}
	if fit < 600 {
		t.Errorf("%d lists have a binary form", fit)
	}
}

func TestAllShortListsOfAttributes(t *testing.T) {
	for count := range 4 {
		for _, l := range everyAttrs(count) {
			checkAnyAttrs(t, l)
		}
	}
}

func TestAttributesWithAChange(t *testing.T) {
	lists := [][]impl.Attr{family(), nestedLadder(8), append(nestedLadder(7), flatAttr(8, 1, "a"), flatAttr(8, 2, ""))}
	for _, l := range lists {
		for _, other := range changedInOneAttr(l) {
			checkAnyAttrs(t, other)
		}
	}
	for _, l := range tooManyAttrs() {
		checkAnyAttrs(t, l)
	}
}
