package tests

import (
	"slices"
	"strings"
	"testing"

	"loop.example/g00838/impl"
)

// Promise 33 for the functions of chapter 10.

// attrLists are the lists among the arguments of a call of a function of chapter 10.
type attrLists struct {
	Attrs []impl.Attr
	Types []int
}

// attrArgs are the arguments of a call of a function of chapter 10, which uses those that it has.
type attrArgs struct {
	attrLists
	s       string
	i, kind int
}

type attrCall struct {
	name string
	call func(x attrArgs) answer
}

func attrCalls() []attrCall {
	return []attrCall{
		{"AreAttrs", func(x attrArgs) answer {
			return answer{nil, impl.AreAttrs(x.Attrs)}
		}},
		{"EncodeAttrs", func(x attrArgs) answer {
			form, ok := impl.EncodeAttrs(x.Attrs)
			return answer{[]any{form}, ok}
		}},
		{"DecodeAttrs", func(x attrArgs) answer {
			// The fault is no zero value where the call fails: checkDecode looks at it.
			l, _, ok := impl.DecodeAttrs(x.s)
			return answer{[]any{l}, ok}
		}},
		{"SizeOf", func(x attrArgs) answer {
			n, ok := impl.SizeOf(x.Attrs, x.i)
			return answer{[]any{n}, ok}
		}},
		{"EndOfAttr", func(x attrArgs) answer {
			end, ok := impl.EndOfAttr(x.Attrs, x.i)
			return answer{[]any{end}, ok}
		}},
		{"ChildrenOf", func(x attrArgs) answer {
			children, ok := impl.ChildrenOf(x.Attrs, x.i)
			return answer{[]any{children}, ok}
		}},
		{"ParentOf", func(x attrArgs) answer {
			parent, ok := impl.ParentOf(x.Attrs, x.i)
			return answer{[]any{parent}, ok}
		}},
		{"FindAttr", func(x attrArgs) answer {
			i, ok := impl.FindAttr(x.Attrs, x.Types)
			return answer{[]any{i}, ok}
		}},
		{"OffsetOf", func(x attrArgs) answer {
			at, ok := impl.OffsetOf(x.Attrs, x.i)
			return answer{[]any{at}, ok}
		}},
		{"DropAttr", func(x attrArgs) answer {
			l, ok := impl.DropAttr(x.Attrs, x.i)
			return answer{[]any{l}, ok}
		}},
		{"WrapAttrs", func(x attrArgs) answer {
			l, ok := impl.WrapAttrs(x.kind, x.Attrs)
			return answer{[]any{l}, ok}
		}},
	}
}

// checkAllAttrs checks all functions of chapter 10 with the same arguments.
func checkAllAttrs(t *testing.T, x attrArgs) {
	t.Helper()
	// These would be one more attribute and one more type, or are not valid.
	first := attrLists{withSpare(x.Attrs, flatAttr(1, 7, "spare")), withSpare(x.Types, 0)}
	second := attrLists{withSpare(x.Attrs, flatAttr(9, -1, "")), withSpare(x.Types, -1)}
	for _, c := range attrCalls() {
		name := func() string { return c.name + " of " + briefly(x) }
		checkTotal(t, name, first, second, func(lists attrLists) answer {
			y := x
			y.attrLists = lists
			return c.call(y)
		})
	}
}

func TestPromise33OfAttributes(t *testing.T) {
	lists := slices.Concat(namedAttrs(), tooManyAttrs()[:3], changedInOneAttr(family()), everyAttrs(1), everyAttrs(2))
	for seed := range 60 {
		lists = append(lists, randomAttrs(seed))
	}
	for _, l := range lists {
		form := ""
		if slowAreAttrs(l) {
			form = slowEncode(l).form
		}
		for _, i := range []int{-1, 0, 1, len(l) - 1, len(l), len(l) + 1} {
			checkAllAttrs(t, attrArgs{attrLists{l, []int{1, i}}, form, i, i})
		}
	}
}

func TestPromise33OfIndicesAndTypes(t *testing.T) {
	for _, n := range slices.Concat(extremes, []int{32766, 32767, 32768}) {
		for _, types := range [][]int{nil, {}, {n}, {1, n}, {n, 2}, slices.Repeat([]int{n}, 8), slices.Repeat([]int{n}, 9)} {
			checkAllAttrs(t, attrArgs{attrLists{family(), types}, familyForm, n, n})
			checkAllAttrs(t, attrArgs{attrLists{nestedLadder(8), types}, "", n, n})
			checkAllAttrs(t, attrArgs{attrLists{nil, types}, "", n, n})
		}
	}
}

func TestPromise33OfStringsToDecode(t *testing.T) {
	strs := slices.Concat(sampleTexts(), []string{familyForm, ladderForm(8, ""), ladderForm(9, ""), ladderForm(1500, ""), ladderForm(1501, "")})
	for at := range familyForm {
		strs = append(strs, familyForm[:at], familyForm[at:], familyForm[:at]+"\xff"+familyForm[at+1:])
	}
	for seed := range uint32(300) {
		strs = append(strs, string(noise(int(seed), seed)), familyForm+string(noise(int(seed), seed)))
	}
	for _, s := range strs {
		checkAllAttrs(t, attrArgs{s: s})
		checkDecode(t, s)
	}
}

// checkOwnData checks that no Data of a result lie in the memory of an argument.
func checkOwnData(t *testing.T, name string, l []impl.Attr, arguments ...string) {
	t.Helper()
	for _, a := range l {
		for _, text := range arguments {
			if isPartOf(a.Data, text) {
				t.Errorf("%s returns memory of its argument", name)
			}
		}
	}
}

func TestPromise33OfDataThatAreNewMemory(t *testing.T) {
	l := family()
	var all []string
	for i := range l {
		l[i].Data = strings.Clone(l[i].Data)
		all = append(all, l[i].Data)
	}
	form := strings.Clone(familyForm)
	decoded, _, ok := impl.DecodeAttrs(form)
	wrapped, okWrap := impl.WrapAttrs(1, l)
	if !ok || !okWrap || len(decoded) != 12 || len(wrapped) != 13 {
		t.Errorf("DecodeAttrs = %v, %v, and WrapAttrs = %v, %v", decoded, ok, wrapped, okWrap)
	}
	checkOwnData(t, "DecodeAttrs", decoded, form)
	checkOwnData(t, "WrapAttrs", wrapped, all...)
	for i := range l {
		dropped, _ := impl.DropAttr(l, i)
		checkOwnData(t, "DropAttr", dropped, all...)
	}
}

func TestFarTooLongListsOfAttributesAndTypes(t *testing.T) {
	x := attrArgs{attrLists{flatAttrs(3000000), make([]int, 3000000)}, strings.Repeat(familyForm, 100000), 1, 1}
	for _, call := range attrCalls() {
		if got := call.call(x); got.ok {
			t.Errorf("%s accepts what is too long", call.name)
		}
	}
	if i, ok := impl.FindAttr(nestedLadder(8), make([]int, 3000000)); i != 0 || ok {
		t.Errorf("FindAttr = %d, %v", i, ok)
	}
}
