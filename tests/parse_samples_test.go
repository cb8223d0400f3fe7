package tests

import (
	"fmt"
	"regexp"
	"slices"
	"strconv"
	"strings"

	"loop.example/g00838/impl"
)

const headForm = "class number rate number ceil number burst number cburst number prio number "

// grammar holds all forms of each part, which has a name of capital letters. A part that may stand any number of times is nothing, or one and further ones.
var grammar = map[string][]string{
	"TEXT":    {"qdisc name DEFAULT { CLASSES FILTERS }"},
	"DEFAULT": {"", "default number"},
	"CLASSES": {"", "CLASS CLASSES"},
	"CLASS":   {headForm + "BODY"},
	"BODY":    {"limit number ;", "{ CLASSES }"},
	"FILTERS": {"", "FILTER FILTERS"},
	"FILTER":  {"filter number FIELD number / number -> number ;"},
	"FIELD":   {"source", "dest", "port", "mark"},
	"LEAF":    {headForm + "limit number ;"},
}

// symbols are all that NextTexts may return, in its order.
var symbols = slices.Concat(keys, []string{"{", "}", ";", "/", "=", "->", "name", "number"})

// symbolOf returns what the grammar calls a token.
func symbolOf(x impl.Token) string {
	switch x.Kind {
	case impl.TkName:
		return "name"
	case impl.TkNumber:
		return "number"
	}
	return x.Text
}

// sampleOf returns a text of a symbol.
func sampleOf(symbol string) string {
	switch symbol {
	case "name":
		return "zz"
	case "number":
		return "17"
	}
	return symbol
}

// expanded replaces the parts in front of what may be missing by all their forms, until a token or nothing stands there.
func expanded(rests []string) []string {
	var l []string
	for _, rest := range rests {
		first, others, _ := strings.Cut(rest, " ")
		forms, isPart := grammar[first]
		if !isPart {
			l = append(l, rest)
		}
		for _, form := range forms {
			l = append(l, expanded([]string{strings.TrimSpace(form + " " + others)})...)
		}
	}
	return l
}

// behind returns what may be missing behind a token.
func behind(rests []string, symbol string) []string {
	var l []string
	for _, rest := range rests {
		if first, others, _ := strings.Cut(rest, " "); first == symbol {
			l = append(l, others)
		}
	}
	return expanded(l)
}

// slowReading is what was found of a text.
type slowReading struct {
	fault impl.Fault
	// hasTokens tells that the fault, if there is one, is not one of the tokens by themselves.
	hasTokens bool
	tokens    []impl.Token
	right     int
	next      []string
	deepest   int

	rests                     []string
	classes, filters, opening int
}

// refusal returns the kind of the fault at a token, or 0.
func (r slowReading) refusal(symbol string) int {
	switch {
	case behind(r.rests, symbol) == nil:
		return impl.ErToken
	case symbol == "class" && r.opening == 9:
		return impl.ErDepth
	case symbol == "class" && r.classes == 24, symbol == "filter" && r.filters == 16:
		return impl.ErCount
	}
	return 0
}

// goOn reads a token that is not refused.
func (r *slowReading) goOn(symbol string) {
	r.rests = behind(r.rests, symbol)
	r.right++
	switch symbol {
	case "class":
		r.classes++
		r.deepest = max(r.deepest, r.opening)
	case "filter":
		r.filters++
	case "{":
		r.opening++
	case "}":
		r.opening--
	}
}

// slowRead reads a text as a part by keeping all that may be missing behind each token.
func slowRead(s string, part string) slowReading {
	tokens, fault := slowTokensOf(s)
	if fault.Kind != 0 {
		return slowReading{fault: fault}
	}
	r := slowReading{hasTokens: true, tokens: tokens, rests: expanded([]string{part})}
	for _, x := range tokens {
		if kind := r.refusal(symbolOf(x)); kind != 0 {
			r.fault = impl.Fault{Kind: kind, At: x.At}
			return r
		}
		r.goOn(symbolOf(x))
	}
	if slices.Contains(r.rests, "") {
		return r
	}
	r.fault = impl.Fault{Kind: impl.ErEnd, At: len(s)}
	for _, symbol := range symbols {
		if r.refusal(symbol) == 0 {
			r.next = append(r.next, symbol)
		}
	}
	return r
}

var (
	beginningForm = regexp.MustCompile(`\Aqdisc (\S+) (?:default (\S+) )?{`)
	partForm      = regexp.MustCompile(`class (\S+) rate (\S+) ceil (\S+) burst (\S+) cburst (\S+) prio (\S+) (?:limit (\S+) ;|({))|filter (\S+) (\S+) (\S+) / (\S+) -> (\S+) ;|}`)
)

// slowNumber returns the value of the text of a number, and 0 for none.
func slowNumber(s string) int {
	dec, _ := slowDecimal(s)
	hex, _ := slowHexadecimal(s)
	return dec + hex
}

// slowConfig finds the parts of a text without a fault by a regular expression, in their order in the text.
func slowConfig(tokens []impl.Token) impl.Config {
	var texts []string
	for _, x := range tokens {
		texts = append(texts, x.Text)
	}
	s := strings.Join(texts, " ")
	beginning := beginningForm.FindStringSubmatch(s)
	c := impl.Config{Name: beginning[1], Default: slowNumber(beginning[2])}
	parents := []int{0}
	for _, part := range partForm.FindAllStringSubmatch(s[len(beginning[0]):], -1) {
		var n []int
		for _, text := range part {
			n = append(n, slowNumber(text))
		}
		switch {
		case part[0] == "}":
			parents = parents[:len(parents)-1]
		case part[9] != "":
			field := slices.Index(grammar["FIELD"], part[10])
			c.Filters = append(c.Filters, impl.Filter{Prio: n[9], Field: field, Value: n[11], Mask: n[12], Target: n[13]})
		default:
			parent := parents[len(parents)-1]
			c.Classes = append(c.Classes, impl.Class{Id: n[1], Parent: parent, Rate: n[2], Ceil: n[3], Burst: n[4], Cburst: n[5], Prio: n[6], Limit: n[7]})
			if part[8] != "" {
				parents = append(parents, n[1])
			}
		}
	}
	return slowOrdered(c)
}

// slowOrdered orders classes and filters by putting each one behind the last one that is not greater.
func slowOrdered(c impl.Config) impl.Config {
	d := impl.Config{Name: c.Name, Default: c.Default}
	for _, x := range c.Classes {
		i := len(d.Classes)
		for i > 0 && d.Classes[i-1].Id > x.Id {
			i--
		}
		d.Classes = slices.Insert(d.Classes, i, x)
	}
	for _, x := range c.Filters {
		i := len(d.Filters)
		for i > 0 && d.Filters[i-1].Prio > x.Prio {
			i--
		}
		d.Filters = slices.Insert(d.Filters, i, x)
	}
	return d
}

// plainText writes a number without a unit.
func plainText(n int) string {
	return strconv.Itoa(n)
}

// headText returns a class up to its body, with numbers as a function writes them.
func headText(x impl.Class, number func(n int) string) string {
	return fmt.Sprintf("class %s rate %s ceil %s burst %s cburst %s prio %s ",
		number(x.Id), number(x.Rate), number(x.Ceil), number(x.Burst), number(x.Cburst), number(x.Prio))
}

// leafText returns a class with a limit.
func leafText(x impl.Class, number func(n int) string) string {
	return headText(x, number) + "limit " + number(x.Limit) + ";"
}

// filterText returns a filter.
func filterText(x impl.Filter, number func(n int) string) string {
	return fmt.Sprintf("filter %s %s %s/%s->%s;", number(x.Prio), grammar["FIELD"][x.Field], number(x.Value), number(x.Mask), number(x.Target))
}

// classesText returns the classes with a Parent, the last one first, and all classes inside them.
func classesText(c impl.Config, parent int, number func(n int) string) string {
	text := ""
	for _, x := range slices.Backward(c.Classes) {
		switch {
		case x.Parent != parent:
		case x.Limit > 0:
			text += leafText(x, number)
		default:
			text += headText(x, number) + "{" + classesText(c, x.Id, number) + "}"
		}
	}
	return text
}

// sourceOf returns a text of a configuration with different Ids and no rings, whose classes and filters are not in order.
func sourceOf(c impl.Config, number func(n int) string) string {
	text := "qdisc " + c.Name
	if c.Default != 0 {
		text += " default " + number(c.Default)
	}
	text += "{\n" + classesText(c, 0, number)
	for _, x := range slices.Backward(c.Filters) {
		text += "\n" + filterText(x, number)
	}
	return text + "}# end"
}

// leavesText returns a number of leaves.
func leavesText(count int) string {
	return strings.Repeat("class 7 rate 1 ceil 2 burst 3 cburst 4 prio 5 limit 6;", count)
}

// nestedText returns a number of classes of which each one is inside the one before it, and what is inside the last one.
func nestedText(count int, inside string) string {
	return strings.Repeat("class 9 rate 1 ceil 2 burst 3 cburst 4 prio 5{", count) + inside + strings.Repeat("}", count)
}

// filtersText returns a number of filters.
func filtersText(count int) string {
	return strings.Repeat("filter 1 port 2/3->4;", count)
}

// rawOf returns a text with some classes and filters.
func rawOf(inside string) string {
	return "qdisc a{" + inside + "}"
}

// richSource is a text with all parts at least once.
const richSource = `qdisc eth default 0x7 { # the top
	class 0x1 rate 100k ceil 100000 burst 2k cburst 1m prio 0 {
		class 9 rate 1 ceil 2 burst 3 cburst 4 prio 5 { }
		class 7 rate 2k ceil 0xff burst 1500 cburst 1501 prio 7 limit 60;class 5 rate 6 ceil 7 \
burst 8 cburst 9 prio 10{class 3 rate 4 ceil 5 burst 6 cburst 7 prio 8 limit 9;}
	}
	class 2 rate 1 ceil 1 burst 1 cburst 1 prio 1 limit 0;
	filter 9 source 0x50 / 0xffff -> 7; filter 8 dest 1/2->3;
	filter 9 port 5/6->7; filter 7 mark 0/0->0;
} # all`

// rawTexts are texts without a fault, of small and of the greatest size.
func rawTexts() []string {
	l := []string{
		"qdisc a { }", "qdisc a{}", "qdisc twelveletter default 1000m {}", "#\nqdisc\\\na\tdefault 0\n{\n}\n#", richSource,
		rawOf(filtersText(1)), rawOf(leavesText(1)), rawOf(leavesText(2) + filtersText(2)),
		rawOf(nestedText(1, "")), rawOf(nestedText(8, "")), rawOf(nestedText(7, leavesText(17)) + filtersText(16)),
		rawOf(leavesText(24) + filtersText(16)), rawOf(nestedText(1, leavesText(22)) + leavesText(1)),
		rawOf(nestedText(8, "") + nestedText(8, "") + nestedText(8, "")), rawOf(strings.Repeat(" ", 3991)),
	}
	for _, c := range namedConfigs() {
		l = append(l, sourceOf(c, plainText))
	}
	return l
}

// otherTexts are texts with a fault.
func otherTexts() []string {
	return []string{
		"", " ", "\t\n\\\n # none", "{", "}", "class", "name", "qdisc", "qdisc a", "qdisc a default", "qdisc a default 1", "qdisc a {",
		"qdisc 7", "qdisc rate {}", "qdisc qdisc {}", "qdisc a a {}", "qdisc a default a {}", "qdisc a default {}", "qdisc a }", "qdisc a ;",
		"qdisc a {{}}", "qdisc a {};", "qdisc a {}}", "qdisc a {} qdisc a {}", "qdisc a {} a", "qdisc a {} 7", "qdisc a {} filter", "qdisc a {} =",
		"qdisc a { name }", "qdisc a { qdisc a { } }", "qdisc a { default 7 }",
		rawOf(filtersText(1) + leavesText(1)), rawOf(nestedText(1, filtersText(1))), rawOf(nestedText(1, leavesText(1)+filtersText(1))),
		rawOf(nestedText(9, "")), rawOf(nestedText(8, leavesText(1))), rawOf(nestedText(8, filtersText(1))),
		rawOf(leavesText(25)), rawOf(leavesText(24) + nestedText(1, "")), rawOf(nestedText(1, leavesText(24))), rawOf(filtersText(17)),
		rawOf(leavesText(25) + filtersText(17)), rawOf(leavesText(24) + filtersText(17)),
		rawOf(leavesText(16) + nestedText(9, "")), rawOf(leavesText(17) + nestedText(9, "")),
		rawOf(leavesText(24) + filtersText(16) + leavesText(1)),
		"qdisc a { class 1 rate 2 ceil 3 burst 4 cburst 5 prio 6; }",
		"qdisc a { class 1 rate 2 ceil 3 burst 4 cburst 5 prio 6 limit 7 }",
		"qdisc a { class 1 rate 2 ceil 3 burst 4 cburst 5 prio 6 limit 7; ; }",
		"qdisc a { class 1 rate 2 ceil 3 burst 4 cburst 5 prio 6 limit { } }",
		"qdisc a { class 1 rate 2 ceil 3 burst 4 cburst 5 prio 6 { limit 7; } }",
		"qdisc a { class 1 ceil 2 rate 3 burst 4 cburst 5 prio 6 limit 7; }",
		"qdisc a { class class rate 2 ceil 3 burst 4 cburst 5 prio 6 limit 7; }",
		"qdisc a { class 1 parent 2 rate 2 ceil 3 burst 4 cburst 5 prio 6 limit 7; }",
		"qdisc a { filter 1 rate 2/3->4; }", "qdisc a { filter 1 a 2/3->4; }", "qdisc a { filter 1 2/3->4; }", "qdisc a { filter 1 port port 2/3->4; }",
		"qdisc a { filter 1 port 2=3->4; }", "qdisc a { filter 1 port 2/3/4; }", "qdisc a { filter 1 port 2->4; }", "qdisc a { filter 1 port 2/3->4 }",
		"qdisc a { } 01", "qdisc 01 a", "01 qdisc", "qdisc a1 {}", "qdisc thirteenmarks {}", "qdisc a { - }", "qdisc A {}", "qdisc a {}\x00",
		"qdisc a {\\", "qdisc a # {}\xff", strings.Repeat(";", 600), strings.Repeat(";", 601), "qdisc a {}" + strings.Repeat(";", 597),
		"qdisc a" + strings.Repeat(" ", 3993),
	}
}

// tooLongTexts are strings that are no texts.
func tooLongTexts() []string {
	return []string{
		strings.Repeat(" ", 4001), "qdisc a {}" + strings.Repeat(" ", 3991), "-" + strings.Repeat(" ", 4000), strings.Repeat(";", 4001),
		rawOf(leavesText(24)) + strings.Repeat("\n", 4000), "filter 1 port 2/3->4;" + strings.Repeat("#", 4000), leavesText(1) + strings.Repeat(" ", 3947),
		strings.Repeat("qdisc ", 100000),
	}
}
