package tests

import (
	"encoding/binary"
	"math/rand/v2"
	"slices"
	"strings"

	"loop.example/g00838/impl"
)

func flatAttr(depth, kind int, data string) impl.Attr {
	return impl.Attr{Depth: depth, Type: kind, Data: data}
}

func nestedAttr(depth, kind int) impl.Attr {
	return impl.Attr{Depth: depth, Type: kind, Nested: true}
}

// flatAttrs returns a number of attributes of Depth 1 without Data.
func flatAttrs(count int) []impl.Attr {
	return slices.Repeat([]impl.Attr{flatAttr(1, 7, "")}, count)
}

// nestedLadder returns nested attributes with the Depths 1 to a number, and this number less 1 as Type.
func nestedLadder(depth int) []impl.Attr {
	var l []impl.Attr
	for d := 1; d <= depth; d++ {
		l = append(l, nestedAttr(d, d-1))
	}
	return l
}

// attrsOfSize returns attributes with a binary form of a number of bytes, which is a multiple of four.
func attrsOfSize(size int) []impl.Attr {
	var l []impl.Attr
	for ; size > 0; size -= min(size, 1004) {
		l = append(l, flatAttr(1, 9, strings.Repeat("z", min(size, 1004)-4)))
	}
	return l
}

// family returns attributes of four Depths, which go back by one, by two and by none.
func family() []impl.Attr {
	return []impl.Attr{
		nestedAttr(1, 1), flatAttr(2, 3, "ab"), nestedAttr(2, 2), nestedAttr(3, 4), flatAttr(4, 3, "x"), flatAttr(2, 3, "abcd"),
		flatAttr(1, 5, ""),
		nestedAttr(1, 1), flatAttr(2, 2, "abc"), nestedAttr(2, 2), flatAttr(3, 6, "12345"),
		flatAttr(1, 5, "zz"),
	}
}

// familyForm is the binary form of family().
const familyForm = "\x24\x00\x01\x80" +
	"\x06\x00\x03\x00ab\x00\x00" +
	"\x10\x00\x02\x80" + "\x0c\x00\x04\x80" + "\x05\x00\x03\x00x\x00\x00\x00" +
	"\x08\x00\x03\x00abcd" +
	"\x04\x00\x05\x00" +
	"\x1c\x00\x01\x80" +
	"\x07\x00\x02\x00abc\x00" +
	"\x10\x00\x02\x80" + "\x09\x00\x06\x0012345\x00\x00\x00" +
	"\x06\x00\x05\x00zz\x00\x00"

// namedAttrs are valid attributes of many forms.
func namedAttrs() [][]impl.Attr {
	l := [][]impl.Attr{nil, {}, family(), flatAttrs(400), flatAttrs(399), slices.Repeat([]impl.Attr{nestedAttr(1, 0)}, 400)}
	for _, size := range []int{0, 1, 2, 3, 4, 5, 999, 1000} {
		data := string(noise(size, uint32(size)))
		l = append(l, []impl.Attr{flatAttr(1, 32767, data)}, []impl.Attr{nestedAttr(1, 0), flatAttr(2, 1, data), flatAttr(1, 2, data)})
	}
	for _, kind := range []int{0, 1, 255, 256, 32766, 32767} {
		l = append(l, []impl.Attr{flatAttr(1, kind, "\x00")}, []impl.Attr{nestedAttr(1, kind)}, []impl.Attr{nestedAttr(1, 3), nestedAttr(2, kind)})
	}
	for depth := 1; depth <= 8; depth++ {
		ladder := nestedLadder(depth)
		l = append(l, ladder, slices.Concat(ladder, flatAttrs(2), ladder), append(ladder, nestedAttr(depth, 9)))
		if depth < 8 {
			l = append(l, append(slices.Clone(ladder), flatAttr(depth+1, 5, "abc"), flatAttr(depth+1, 5, "")))
		}
	}
	for _, size := range []int{5020, 5992, 5996, 6000, 6004, 6008, 7000} {
		l = append(l, attrsOfSize(size))
	}
	// One nested attribute around all that fits, and more.
	for _, size := range []int{5996, 6000} {
		l = append(l, deeperAttrs(attrsOfSize(size), nestedAttr(1, 4)))
	}
	return append(l, deeperAttrs(flatAttrs(399), nestedAttr(1, 4)))
}

// deeperAttrs returns a nested attribute that holds others.
func deeperAttrs(l []impl.Attr, around impl.Attr) []impl.Attr {
	deeper := []impl.Attr{around}
	for _, a := range l {
		a.Depth++
		deeper = append(deeper, a)
	}
	return deeper
}

// randomAttrs returns valid attributes, whose binary form may have too many bytes.
func randomAttrs(seed int) []impl.Attr {
	dice := diceFor(3000 + seed)
	var l []impl.Attr
	deepest := 1
	for range dice.IntN(2 + []int{5, 20, 60}[seed%3]) {
		a := impl.Attr{Depth: deepest, Type: []int{0, 1, 2, 32767}[dice.IntN(4)], Nested: dice.IntN(2) == 0}
		if dice.IntN(3) == 0 {
			a.Depth = 1 + dice.IntN(deepest)
		}
		deepest = a.Depth
		if a.Nested {
			deepest = min(a.Depth+1, impl.MaxNest)
		} else {
			a.Data = string(noise([]int{0, 1, 2, 3, 4, 5, 30, 200}[dice.IntN(8)], dice.Uint32()))
		}
		l = append(l, a)
	}
	return l
}

// sampleAttrs are valid attributes.
func sampleAttrs() [][]impl.Attr {
	l := namedAttrs()
	for seed := range 600 {
		l = append(l, randomAttrs(seed))
	}
	return l
}

// everyAttrs returns all lists of a number of attributes with Depths of 0 to 3 and with and without Data, valid or not.
func everyAttrs(count int) [][]impl.Attr {
	if count == 0 {
		return [][]impl.Attr{nil}
	}
	var l [][]impl.Attr
	for _, shorter := range everyAttrs(count - 1) {
		for depth := range 4 {
			for _, a := range []impl.Attr{nestedAttr(depth, count), flatAttr(depth, 1, ""), flatAttr(depth, count%2, "ab"), {Depth: depth, Nested: true, Data: "a"}} {
				l = append(l, append(slices.Clone(shorter), a))
			}
		}
	}
	return l
}

// changedInOneAttr returns lists that differ from a list in one field of one attribute. Most are not valid.
func changedInOneAttr(l []impl.Attr) [][]impl.Attr {
	var lists [][]impl.Attr
	for i := range l {
		change := func(with func(a *impl.Attr)) {
			other := slices.Clone(l)
			with(&other[i])
			lists = append(lists, other)
		}
		for _, n := range slices.Concat(extremes, []int{l[i].Depth - 1, l[i].Depth + 1, 6, 9, 10, 32766, 32767, 32768, 32769}) {
			change(func(a *impl.Attr) { a.Depth = n })
			change(func(a *impl.Attr) { a.Type = n })
		}
		change(func(a *impl.Attr) { a.Nested = !a.Nested })
		for _, size := range []int{0, 1, 1000, 1001, 4001} {
			change(func(a *impl.Attr) { a.Data = strings.Repeat("d", size) })
		}
	}
	return lists
}

// tooManyAttrs are lists with more attributes than there may be.
func tooManyAttrs() [][]impl.Attr {
	return [][]impl.Attr{flatAttrs(401), flatAttrs(1000), deeperAttrs(flatAttrs(400), nestedAttr(1, 4)), flatAttrs(2000000)}
}

// slowAreAttrs reports whether attributes are as the document says, by one condition after the other.
func slowAreAttrs(l []impl.Attr) bool {
	fine := len(l) <= 400
	for i, a := range l {
		fine = fine && isIn(a.Depth, 1, 8) && isIn(a.Type, 0, 32767) && len(a.Data) <= 1000 && !(a.Nested && a.Data != "")
		if i == 0 {
			fine = fine && a.Depth == 1
		} else {
			last := l[i-1]
			fine = fine && (a.Depth <= last.Depth || a.Depth == last.Depth+1 && last.Nested)
		}
	}
	return fine
}

// slowWays returns for each attribute the indices on the way from Depth 1 to it.
func slowWays(l []impl.Attr) [][]int {
	var ways [][]int
	var way []int
	for i, a := range l {
		way = append(slices.Clone(way[:a.Depth-1]), i)
		ways = append(ways, way)
	}
	return ways
}

// slowAttrParent returns the parent of the last attribute of a way, or -1.
func slowAttrParent(way []int) int {
	if len(way) == 1 {
		return -1
	}
	return way[len(way)-2]
}

// slowAttrChildren returns the indices of the ways whose last attributes have a parent, or -1 for none.
func slowAttrChildren(ways [][]int, parent int) []int {
	var children []int
	for k, way := range ways {
		if slowAttrParent(way) == parent {
			children = append(children, k)
		}
	}
	return children
}

// slowFindAttr returns the index of the first attribute with types on the way to it, or -1.
func slowFindAttr(l []impl.Attr, types []int) int {
	return slices.IndexFunc(slowWays(l), func(way []int) bool {
		return slices.EqualFunc(way, types, func(i, kind int) bool { return l[i].Type == kind })
	})
}

// slowEncoding is a binary form, of whatever length, and the places of attributes in it.
type slowEncoding struct {
	form           string
	offsets, sizes []int
}

// slowEncode writes each attribute into the one around it.
func slowEncode(l []impl.Attr) slowEncoding {
	e := slowEncoding{offsets: make([]int, len(l)), sizes: make([]int, len(l))}
	ways := slowWays(l)
	var formOf func(i, at int) string
	formsIn := func(parent, at int) string {
		forms := ""
		for _, k := range slowAttrChildren(ways, parent) {
			forms += formOf(k, at+len(forms))
		}
		return forms
	}
	formOf = func(i, at int) string {
		inside, kind := l[i].Data, l[i].Type
		if l[i].Nested {
			inside, kind = formsIn(i, at+4), kind+32768
		}
		form := attrHead(4+len(inside), kind) + inside
		for len(form)%4 != 0 {
			form += "\x00"
		}
		e.offsets[i], e.sizes[i] = at, len(form)
		return form
	}
	e.form = formsIn(-1, 0)
	return e
}

// attrHead returns the four bytes at the beginning of a binary form.
func attrHead(size, kind int) string {
	data := binary.LittleEndian.AppendUint16(nil, uint16(size))
	return string(binary.LittleEndian.AppendUint16(data, uint16(kind)))
}

// slowPair returns the number of two bytes at an offset, or 0 where they are missing.
func slowPair(s string, at int) int {
	if at+2 > len(s) {
		return 0
	}
	return int(binary.LittleEndian.Uint16([]byte(s[at : at+2])))
}

// slowAttrFault returns the first fault of an attribute, without what is in it, in a string that ends where it has to end, behind a number of others.
func slowAttrFault(s string, at, depth, count int) impl.Fault {
	size, kind := slowPair(s, at), slowPair(s, at+2)
	whole := size
	for whole%4 != 0 {
		whole++
	}
	dirt := strings.TrimLeft(s[min(at+size, len(s)):min(at+whole, len(s))], "\x00")
	for _, check := range []struct {
		is    bool
		fault impl.Fault
	}{
		{depth > 8, faultAt(impl.ErDepth, at)},
		{count == 400, faultAt(impl.ErCount, at)},
		{len(s)-at < 4, faultAt(impl.ErEnd, at)},
		{size < 4, faultAt(impl.ErNumber, at)},
		{at+whole > len(s), faultAt(impl.ErEnd, at)},
		{kind < 32768 && size-4 > 1000, faultAt(impl.ErCount, at)},
		{dirt != "", faultAt(impl.ErByte, at+whole-len(dirt))},
	} {
		if check.is {
			return check.fault
		}
	}
	return impl.Fault{}
}

// slowDecode reads a binary form with a list of the ends of all nested attributes around an offset, the innermost one last.
func slowDecode(s string) ([]impl.Attr, impl.Fault) {
	if len(s) > 6000 {
		return nil, faultAt(impl.ErCount, 0)
	}
	var l []impl.Attr
	at, ends := 0, []int{len(s)}
	for len(ends) > 0 {
		depth := len(ends)
		end := ends[depth-1]
		if at == end {
			ends = ends[:depth-1]
			continue
		}
		if f := slowAttrFault(s[:end], at, depth, len(l)); f.Kind != 0 {
			return nil, f
		}
		size, kind := slowPair(s, at), slowPair(s, at+2)
		if kind >= 32768 {
			l = append(l, nestedAttr(depth, kind-32768))
			ends = append(ends, at+size)
			at += 4
		} else {
			l = append(l, flatAttr(depth, kind, s[at+4:at+size]))
			at += (size + 3) / 4 * 4
		}
	}
	return l, impl.Fault{}
}

// spoiledForm returns a binary form in which some bytes are changed, dropped or doubled.
func spoiledForm(dice *rand.Rand, form string) string {
	for range 1 + dice.IntN(3) {
		if form == "" {
			return string(noise(dice.IntN(9), dice.Uint32()))
		}
		at := dice.IntN(len(form))
		with := []string{"", "\x00", "\x01", "\x03", "\x04", "\x05", "\x08", "\x80", form[at:], form[:at], form[at:at+1] + form[at:at+1]}
		form = form[:at] + with[dice.IntN(len(with))] + form[at+1:]
	}
	return form
}
