package tests

import (
	"slices"
	"strings"
	"testing"

	"loop.example/g00838/impl"
)

// Promise 6: the edge cases of the parser, with the places of their faults.

// faultCase is a text and the first fault in it.
type faultCase struct {
	s        string
	kind, at int
	// right is the number of tokens before the fault, or -1 if it is one of TokensOf.
	right int
}

func checkFaults(t *testing.T, cases []faultCase) {
	t.Helper()
	for _, c := range cases {
		fault := impl.Fault{Kind: c.kind, At: c.at}
		if config, got, ok := impl.ParseRaw(c.s); !isZeroConfig(config) || got != fault || !ok {
			t.Errorf("ParseRaw(%.90q) = %v, %v, %v and not %v", c.s, config, got, ok, fault)
		}
		if got, ok := impl.FaultOf(c.s); got != fault || !ok {
			t.Errorf("FaultOf(%.90q) = %v, %v and not %v", c.s, got, ok, fault)
		}
		if n, ok := impl.RightTokens(c.s); n != max(c.right, 0) || ok != (c.right >= 0) {
			t.Errorf("RightTokens(%.90q) = %d, %v and not %d", c.s, n, ok, c.right)
		}
		if l, ok := impl.NextTexts(c.s); ok != (c.kind == impl.ErEnd) || ok != (len(l) > 0) {
			t.Errorf("NextTexts(%.90q) = %v, %v", c.s, l, ok)
		}
		if n, ok := impl.DeepestClass(c.s); n != 0 || ok {
			t.Errorf("DeepestClass(%.90q) = %d, %v", c.s, n, ok)
		}
		if config, ok := impl.ParseConfig(c.s); !isZeroConfig(config) || ok {
			t.Errorf("ParseConfig(%.90q) = %v, %v", c.s, config, ok)
		}
	}
}

func TestNamesThatAreKeyWords(t *testing.T) {
	for _, word := range keys {
		checkFaults(t, []faultCase{
			{"qdisc " + word + " { }", impl.ErToken, 6, 1},
			{"qdisc " + word + " default 1 { }", impl.ErToken, 6, 1},
			{"qdisc " + word, impl.ErToken, 6, 1},
			{"qdisc a " + word + "a {}", impl.ErToken, 8, 2},
		})
	}
	// The name that NextTexts tells of is a name as any other one.
	for _, name := range []string{"name", "number", "rates", "a", "z", "twelveletter", "abcdefghi"} {
		if c, fault, ok := impl.ParseRaw("qdisc " + name + "{}"); !sameConfig(c, impl.Config{Name: name}) || fault.Kind != 0 || !ok {
			t.Error(name, c, fault, ok)
		}
	}
	if l, ok := impl.NextTexts("qdisc"); !slices.Equal(l, []string{"name"}) || !ok {
		t.Error(l, ok)
	}
	checkFaults(t, []faultCase{
		{"name", impl.ErToken, 0, 0}, {"qdisc 7 {}", impl.ErToken, 6, 1}, {"qdisc {}", impl.ErToken, 6, 1}, {"qdisc a default name {}", impl.ErToken, 16, 3},
		{"qdisc thirteenmarks {}", impl.ErName, 6, -1}, {"qdisc a1 {}", impl.ErName, 6, -1}, {"qdisc 1a {}", impl.ErNumber, 6, -1},
	})
}

func TestDefaults(t *testing.T) {
	for _, c := range []struct {
		s  string
		to int
	}{
		{"qdisc a { }", 0}, {"qdisc a default 0 { }", 0}, {"qdisc a default 7 { }", 7}, {"qdisc a default 0x1f { }", 31},
		{"qdisc a default 2k { }", 2000}, {"qdisc a default 1000000000 { }", 1000000000}, {"qdisc a default 1000m { }", 1000000000},
	} {
		if config, fault, ok := impl.ParseRaw(c.s); !sameConfig(config, impl.Config{Name: "a", Default: c.to}) || fault.Kind != 0 || !ok {
			t.Errorf("ParseRaw(%q) = %v, %v, %v", c.s, config, fault, ok)
		}
	}
	checkFaults(t, []faultCase{
		{"qdisc a default { }", impl.ErToken, 16, 3},
		{"qdisc a default default { }", impl.ErToken, 16, 3},
		{"qdisc a default 1 default 2 { }", impl.ErToken, 18, 4},
		{"qdisc a 1 { }", impl.ErToken, 8, 2},
		{"qdisc default 1 { }", impl.ErToken, 6, 1},
		{"qdisc a { default 1 }", impl.ErToken, 10, 3},
		{"qdisc a default 1000000001 { }", impl.ErNumber, 16, -1},
	})
}

func TestATextWithoutClassesAndFilters(t *testing.T) {
	for _, s := range []string{"qdisc a { }", "qdisc a{}", "#x\nqdisc\\\na\t{\n}#", rawOf(strings.Repeat("\n", 3991))} {
		if c, fault, ok := impl.ParseRaw(s); !sameConfig(c, impl.Config{Name: "a"}) || fault != (impl.Fault{}) || !ok {
			t.Errorf("ParseRaw(%.40q) = %v, %v, %v", s, c, fault, ok)
		}
		if n, ok := impl.DeepestClass(s); n != 0 || !ok {
			t.Errorf("DeepestClass(%.40q) = %d, %v", s, n, ok)
		}
		if n, ok := impl.RightTokens(s); n != 4 || !ok {
			t.Errorf("RightTokens(%.40q) = %d, %v", s, n, ok)
		}
		if fault, ok := impl.FaultOf(s); fault != (impl.Fault{}) || !ok {
			t.Errorf("FaultOf(%.40q) = %v, %v", s, fault, ok)
		}
		if c, ok := impl.ParseConfig(s); !isZeroConfig(c) || ok {
			t.Errorf("ParseConfig(%.40q) = %v, %v", s, c, ok)
		}
		if l, ok := impl.NextTexts(s); len(l) != 0 || ok {
			t.Errorf("NextTexts(%.40q) = %v, %v", s, l, ok)
		}
	}
}

func TestDepths(t *testing.T) {
	for depth := 1; depth <= 8; depth++ {
		inside := leavesText(1)
		for _, s := range []string{
			rawOf(nestedText(depth, "")), rawOf(nestedText(depth-1, inside)), rawOf(nestedText(depth-1, inside+inside) + inside),
			rawOf(inside + nestedText(depth, "")), rawOf(nestedText(depth-1, nestedText(1, "")+nestedText(1, ""))),
		} {
			if n, ok := impl.DeepestClass(s); n != depth || !ok {
				t.Errorf("DeepestClass(%q) = %d, %v", s, n, ok)
			}
		}
	}
	head := len("class 9 rate 1 ceil 2 burst 3 cburst 4 prio 5{")
	at := len("qdisc a{") + 8*head
	checkFaults(t, []faultCase{
		{rawOf(nestedText(9, "")), impl.ErDepth, at, 3 + 8*13},
		{rawOf(nestedText(8, leavesText(1))), impl.ErDepth, at, 3 + 8*13},
		{rawOf(nestedText(20, "")), impl.ErDepth, at, 3 + 8*13},
		{rawOf(nestedText(8, " class")), impl.ErDepth, at + 1, 3 + 8*13}, // the word alone
		{rawOf(nestedText(8, "}") + nestedText(9, "")), impl.ErToken, at + 9, 3 + 8*13 + 9},
		// Where no class can begin, the depth does not count.
		{rawOf(nestedText(8, filtersText(1))), impl.ErToken, at, 3 + 8*13},
		{rawOf(nestedText(7, "class class")), impl.ErToken, at - head + 6, 3 + 7*13 + 1},
		{rawOf(nestedText(8, "{")), impl.ErToken, at, 3 + 8*13},
	})
	// Classes that are complete are not around the next one.
	if n, ok := impl.DeepestClass(rawOf(nestedText(8, "") + nestedText(8, "") + nestedText(7, leavesText(1)))); n != 8 || !ok {
		t.Error(n, ok)
	}
	deep := rawOf(nestedText(8, ""))
	for s, want := range map[string][]string{
		deep[:at]:          {"}"},
		deep[:at] + "}":    {"class", "}"},
		deep[:at-head]:     {"class", "}"},
		deep[:at] + "}}}":  {"class", "}"},
		deep[:at+7] + "}":  {"class", "filter", "}"},
		deep[:at-1]:        {"limit", "{"},
		deep[:at-1] + "{ ": {"}"},
	} {
		if l, ok := impl.NextTexts(s); !slices.Equal(l, want) || !ok {
			t.Errorf("NextTexts(%q) = %v, %v and not %v", s, l, ok, want)
		}
	}
}

func TestCounts(t *testing.T) {
	for _, c := range []struct {
		s                         string
		classes, filters, deepest int
	}{
		{rawOf(leavesText(24) + filtersText(16)), 24, 16, 1},
		{rawOf(leavesText(24)), 24, 0, 1},
		{rawOf(filtersText(16)), 0, 16, 0},
		{rawOf(nestedText(8, "") + leavesText(16)), 24, 0, 8},
		{rawOf(nestedText(1, leavesText(23)) + filtersText(16)), 24, 16, 2},
		{rawOf(nestedText(7, leavesText(17)) + filtersText(1)), 24, 1, 8},
		{rawOf(nestedText(8, "") + nestedText(8, "") + nestedText(8, "")), 24, 0, 8},
	} {
		if config, fault, ok := impl.ParseRaw(c.s); len(config.Classes) != c.classes || len(config.Filters) != c.filters || fault.Kind != 0 || !ok {
			t.Errorf("ParseRaw(%q) = %v, %v, %v", c.s, config, fault, ok)
		}
		if n, ok := impl.DeepestClass(c.s); n != c.deepest || !ok {
			t.Errorf("DeepestClass(%q) = %d, %v", c.s, n, ok)
		}
	}
	at, leaf, filter, head := len("qdisc a{"), len(leavesText(1)), len(filtersText(1)), len(nestedText(1, ""))-1
	checkFaults(t, []faultCase{
		{rawOf(leavesText(25)), impl.ErCount, at + 24*leaf, 3 + 24*15},
		{rawOf(leavesText(24) + "class"), impl.ErCount, at + 24*leaf, 3 + 24*15},
		{rawOf(leavesText(24) + nestedText(1, "")), impl.ErCount, at + 24*leaf, 3 + 24*15},
		{rawOf(nestedText(1, leavesText(24))), impl.ErCount, at + head + 23*leaf, 3 + 13 + 23*15},
		{rawOf(nestedText(1, leavesText(23)) + leavesText(1)), impl.ErCount, at + head + 23*leaf + 1, 3 + 14 + 23*15},
		{rawOf(leavesText(23) + nestedText(1, leavesText(1))), impl.ErCount, at + 23*leaf + head, 3 + 23*15 + 13},
		{rawOf(filtersText(17)), impl.ErCount, at + 16*filter, 3 + 16*9},
		{rawOf(filtersText(16) + "filter"), impl.ErCount, at + 16*filter, 3 + 16*9},
		{rawOf(leavesText(24) + filtersText(17)), impl.ErCount, at + 24*leaf + 16*filter, 3 + 24*15 + 16*9},
		// Where none can begin, the number does not count.
		{rawOf(leavesText(24) + filtersText(1) + leavesText(1)), impl.ErToken, at + 24*leaf + filter, 3 + 24*15 + 9},
		{rawOf(leavesText(24)) + "class", impl.ErToken, at + 24*leaf + 1, 3 + 24*15 + 1},
		{rawOf(filtersText(16) + leavesText(1)), impl.ErToken, at + 16*filter, 3 + 16*9},
		{rawOf(filtersText(16)) + "filter", impl.ErToken, at + 16*filter + 1, 3 + 16*9 + 1},
		{rawOf(filtersText(15) + "filter filter"), impl.ErToken, at + 15*filter + 7, 3 + 15*9 + 1},
		{rawOf(leavesText(23) + nestedText(1, filtersText(1))), impl.ErToken, at + 23*leaf + head, 3 + 23*15 + 13},
		// The tokens of more classes are too many by themselves.
		{rawOf(leavesText(40)), impl.ErCount, at + 39*leaf + len("class 7 rate 1 ceil 2 burst 3 cburst 4 prio 5 "), -1},
	})
	for s, want := range map[string][]string{
		"qdisc a{" + leavesText(23):                            {"class", "filter", "}"},
		"qdisc a{" + leavesText(24):                            {"filter", "}"},
		"qdisc a{" + filtersText(15):                           {"filter", "}"},
		"qdisc a{" + filtersText(16):                           {"}"},
		"qdisc a{" + leavesText(24) + filtersText(16):          {"}"},
		"qdisc a{" + leavesText(24) + filtersText(15):          {"filter", "}"},
		"qdisc a{" + nestedText(1, leavesText(22))[:head]:      {"class", "}"},
		"qdisc a{" + leavesText(23) + nestedText(1, "")[:head]: {"}"},
	} {
		if l, ok := impl.NextTexts(s); !slices.Equal(l, want) || !ok {
			t.Errorf("NextTexts(%q) = %v, %v and not %v", s, l, ok, want)
		}
	}
}

func TestDepthAndCountAtOnce(t *testing.T) {
	at, leaf, head := len("qdisc a{"), len(leavesText(1)), len(nestedText(1, ""))-1
	checkFaults(t, []faultCase{
		{rawOf(leavesText(16) + nestedText(8, leavesText(1))), impl.ErDepth, at + 16*leaf + 8*head, 3 + 16*15 + 8*13},
		{rawOf(leavesText(15) + nestedText(8, leavesText(1))), impl.ErDepth, at + 15*leaf + 8*head, 3 + 15*15 + 8*13},
		{rawOf(leavesText(17) + nestedText(8, leavesText(1))), impl.ErCount, at + 17*leaf + 7*head, 3 + 17*15 + 7*13},
		{rawOf(leavesText(16) + nestedText(8, filtersText(17))), impl.ErToken, at + 16*leaf + 8*head, 3 + 16*15 + 8*13},
		{rawOf(leavesText(16) + nestedText(8, "") + leavesText(1)), impl.ErCount, at + 16*leaf + 8*head + 8, 3 + 16*15 + 8*14},
	})
}

// numbered returns a leaf with an Id, which another number tells from others with the same one.
func numbered(id, rate int) impl.Class {
	return impl.Class{Id: id, Rate: rate}
}

func TestOrder(t *testing.T) {
	// Longer lists might be ordered in another way than short ones.
	for seed := range 100 {
		dice := diceFor(seed)
		var classes []impl.Class
		var filters []impl.Filter
		inside := ""
		for n := range 1 + dice.IntN(24) {
			classes = append(classes, numbered(dice.IntN(1+seed%5), n))
			inside += leafText(classes[n], plainText)
		}
		for n := range dice.IntN(17) {
			filters = append(filters, impl.Filter{Prio: dice.IntN(1 + seed%5), Field: 2, Value: n, Target: dice.IntN(1000)})
			inside += filterText(filters[n], plainText)
		}
		want := slowOrdered(impl.Config{Name: "a", Classes: classes, Filters: filters})
		if c, fault, ok := impl.ParseRaw(rawOf(inside)); !sameConfig(c, want) || fault.Kind != 0 || !ok {
			t.Fatalf("ParseRaw(%q) = %v, %v, %v and not %v", rawOf(inside), c, fault, ok, want)
		}
	}
}

func TestEqualIdsOneInTheOther(t *testing.T) {
	head := func(id, rate int) string { return headText(numbered(id, rate), plainText) }
	s := rawOf(head(5, 1) + "{" + head(5, 2) + "{" + head(3, 3) + "limit 1;}" + head(0, 4) + "{" + head(5, 5) + "{}}" + head(5, 6) + "limit 0;}" + head(5, 7) + "{}")
	want := []impl.Class{
		{Id: 0, Parent: 5, Rate: 4}, {Id: 3, Parent: 5, Rate: 3, Limit: 1},
		// A class begins ahead of those inside it.
		{Id: 5, Parent: 0, Rate: 1}, {Id: 5, Parent: 5, Rate: 2}, {Id: 5, Parent: 0, Rate: 5}, {Id: 5, Parent: 5, Rate: 6}, {Id: 5, Parent: 0, Rate: 7},
	}
	if c, fault, ok := impl.ParseRaw(s); !slices.Equal(c.Classes, want) || fault.Kind != 0 || !ok {
		t.Error(c, fault, ok)
	}
	if n, ok := impl.DeepestClass(s); n != 3 || !ok {
		t.Error(n, ok)
	}
}

func TestRawTextsOfConfigsThatAreNotValid(t *testing.T) {
	for _, c := range []impl.Config{
		changed(crossed(), func(c *impl.Config) { c.Name = "abcdefghi" }),
		withClass(crossed(), 20, func(x *impl.Class) { x.Id = 1000 }),
		withClass(crossed(), 20, func(x *impl.Class) { x.Id = 1000000000 }),
		withClass(crossed(), 20, func(x *impl.Class) { x.Parent = 0 }),
		withClass(crossed(), 20, func(x *impl.Class) { x.Rate = 31 }),
		withClass(crossed(), 20, func(x *impl.Class) { x.Rate, x.Ceil = 40, 40 }),
		withClass(crossed(), 20, func(x *impl.Class) { x.Burst = 1499 }),
		withClass(crossed(), 20, func(x *impl.Class) { x.Cburst = 1000001 }),
		withClass(crossed(), 20, func(x *impl.Class) { x.Prio = 8 }),
		withClass(crossed(), 20, func(x *impl.Class) { x.Limit = 0 }),
		withClass(crossed(), 20, func(x *impl.Class) { x.Limit = 61 }),
		withFilter(crossed(), 0, func(x *impl.Filter) { x.Prio = 0 }),
		withFilter(crossed(), 2, func(x *impl.Filter) { x.Prio = 50 }),
		withFilter(crossed(), 2, func(x *impl.Filter) { x.Prio = 100 }),
		withFilter(crossed(), 0, func(x *impl.Filter) { x.Target = 50 }),
		withFilter(crossed(), 0, func(x *impl.Filter) { x.Mask = 65534 }),
		withFilter(crossed(), 0, func(x *impl.Filter) { x.Mask, x.Value = 65536, 65536 }),
		changed(crossed(), func(c *impl.Config) { c.Default = 50 }),
		changed(crossed(), func(c *impl.Config) { c.Default = 1000 }),
	} {
		s := sourceOf(c, plainText)
		if d, fault, ok := impl.ParseRaw(s); !slices.Contains(d.Classes, c.Classes[0]) || len(d.Classes) != len(c.Classes) || len(d.Filters) != len(c.Filters) ||
			d.Name != c.Name || d.Default != c.Default || fault.Kind != 0 || !ok {
			t.Errorf("ParseRaw(%q) = %v, %v, %v", s, d, fault, ok)
		}
		if d, ok := impl.ParseConfig(s); !isZeroConfig(d) || ok {
			t.Errorf("ParseConfig(%q) = %v, %v", s, d, ok)
		}
		checkParser(t, s)
	}
}

func TestTextsThatEndAtEachToken(t *testing.T) {
	for _, s := range []string{richSource, sourceOf(crossed(), plainText), rawOf(leavesText(24) + filtersText(16))} {
		tokens, _ := slowTokensOf(s)
		for i, x := range tokens {
			beginning := s[:x.At]
			checkFaults(t, []faultCase{
				{beginning, impl.ErEnd, x.At, i},
				{beginning + " # }\n\\\n", impl.ErEnd, x.At + 7, i},
			})
			trimmed := strings.TrimRight(beginning, " \n\t\\")
			checkFaults(t, []faultCase{{trimmed, impl.ErEnd, len(trimmed), i}})
		}
	}
}

func TestTextsWithoutTokens(t *testing.T) {
	for _, s := range []string{"", " ", "\n", "\t \n", "\\\n", "#", "# qdisc a {}", "#\n#\n", strings.Repeat(" ", 4000)} {
		checkFaults(t, []faultCase{{s, impl.ErEnd, len(s), 0}})
		if l, ok := impl.NextTexts(s); !slices.Equal(l, []string{"qdisc"}) || !ok {
			t.Errorf("NextTexts(%.20q) = %v, %v", s, l, ok)
		}
		if x, fault, ok := impl.ParseFilter(s); x != (impl.Filter{}) || fault != (impl.Fault{Kind: impl.ErEnd, At: len(s)}) || !ok {
			t.Errorf("ParseFilter(%.20q) = %v, %v, %v", s, x, fault, ok)
		}
		if x, fault, ok := impl.ParseLeaf(s, 0); x != (impl.Class{}) || fault != (impl.Fault{Kind: impl.ErEnd, At: len(s)}) || !ok {
			t.Errorf("ParseLeaf(%.20q, 0) = %v, %v, %v", s, x, fault, ok)
		}
	}
}

func TestTokensBehindTheEnd(t *testing.T) {
	for _, symbol := range symbols {
		checkFaults(t, []faultCase{
			{"qdisc a {} " + sampleOf(symbol), impl.ErToken, 11, 4},
			{"qdisc a {} " + sampleOf(symbol) + " qdisc a {}", impl.ErToken, 11, 4},
			{"qdisc a {} # x\n" + sampleOf(symbol) + " 7", impl.ErToken, 15, 4},
		})
	}
}

func TestFaultsOfTokensComeFirst(t *testing.T) {
	checkFaults(t, []faultCase{
		// ahead of a token that cannot be there, at it, and behind it
		{"01 qdisc 7", impl.ErNumber, 0, -1}, {"qdisc 07", impl.ErNumber, 6, -1}, {"qdisc 7 07", impl.ErNumber, 8, -1},
		{"a1 qdisc 7", impl.ErName, 0, -1}, {"qdisc a1", impl.ErName, 6, -1}, {"qdisc 7 a1", impl.ErName, 8, -1},
		{"- qdisc 7", impl.ErByte, 0, -1}, {"qdisc -", impl.ErByte, 6, -1}, {"qdisc 7 -", impl.ErByte, 8, -1},
		{"qdisc 7 a { } } } 0x10000", impl.ErNumber, 18, -1},
		{"} 0x", impl.ErNumber, 2, -1},
		{"qdisc a {} } \x00", impl.ErByte, 13, -1},
		// ahead of missing tokens
		{"qdisc a \\", impl.ErByte, 8, -1}, {"qdisc thirteenmarks", impl.ErName, 6, -1}, {"qdisc a default 2kk", impl.ErNumber, 16, -1},
		// two of them, and one in a text that is whole otherwise
		{"qdisc 7 a1 01", impl.ErName, 8, -1}, {"qdisc a { } 01", impl.ErNumber, 12, -1}, {"qdisc a { # \xff\n}", impl.ErByte, 12, -1},
		{rawOf(leavesText(25) + "-"), impl.ErByte, 8 + 25*len(leavesText(1)), -1},
		{rawOf(nestedText(9, "a1")), impl.ErName, 8 + 9*len("class 9 rate 1 ceil 2 burst 3 cburst 4 prio 5{"), -1},
		// too many tokens
		{strings.Repeat(";", 600), impl.ErToken, 0, 0}, {strings.Repeat(";", 601), impl.ErCount, 600, -1},
		{"qdisc a {}" + strings.Repeat(";", 596), impl.ErToken, 10, 4}, {"qdisc a {}" + strings.Repeat(";", 597), impl.ErCount, 606, -1},
	})
}

func TestNextTexts(t *testing.T) {
	head := "qdisc a { class 1 rate 2 ceil 3 burst 4 cburst 5 prio 6"
	for s, want := range map[string][]string{
		"qdisc":                           {"name"},
		"qdisc a":                         {"default", "{"},
		"qdisc a default":                 {"number"},
		"qdisc a default 7":               {"{"},
		"qdisc a {":                       {"class", "filter", "}"},
		"qdisc a { class":                 {"number"},
		"qdisc a { class 1":               {"rate"},
		"qdisc a { class 1 rate":          {"number"},
		"qdisc a { class 1 rate 2":        {"ceil"},
		head[:strings.Index(head, "bu")]:  {"burst"},
		head[:strings.Index(head, "cb")]:  {"cburst"},
		head[:strings.Index(head, "pr")]:  {"prio"},
		head:                              {"limit", "{"},
		head + " limit":                   {"number"},
		head + " limit 7":                 {";"},
		head + " limit 7;":                {"class", "filter", "}"},
		head + " {":                       {"class", "}"},
		head + " { }":                     {"class", "filter", "}"},
		"qdisc a { filter":                {"number"},
		"qdisc a { filter 1":              {"source", "dest", "port", "mark"},
		"qdisc a { filter 1 port":         {"number"},
		"qdisc a { filter 1 port 2":       {"/"},
		"qdisc a { filter 1 port 2/":      {"number"},
		"qdisc a { filter 1 port 2/3":     {"->"},
		"qdisc a { filter 1 port 2/3->":   {"number"},
		"qdisc a { filter 1 port 2/3->4":  {";"},
		"qdisc a { filter 1 mark 2/3->4;": {"filter", "}"},
	} {
		if l, ok := impl.NextTexts(s); !slices.Equal(l, want) || !ok {
			t.Errorf("NextTexts(%q) = %v, %v and not %v", s, l, ok, want)
		}
	}
	for _, s := range []string{"qdisc a {}", "qdisc a {};", "qdisc 7", "qdisc 07", "class", "qdisc a \\", strings.Repeat(";", 601), strings.Repeat(" ", 4001)} {
		if l, ok := impl.NextTexts(s); len(l) != 0 || ok {
			t.Errorf("NextTexts(%.20q) = %v, %v", s, l, ok)
		}
	}
}

func TestParseFilter(t *testing.T) {
	for _, c := range []struct {
		s        string
		filter   impl.Filter
		kind, at int
	}{
		{"filter 8 mark 9 / 10 -> 11;", impl.Filter{Prio: 8, Field: 3, Value: 9, Mask: 10, Target: 11}, 0, 0},
		{" filter\n8\tport 9/10->11;# x", impl.Filter{Prio: 8, Field: 2, Value: 9, Mask: 10, Target: 11}, 0, 0},
		{"filter 0 source 0 / 0 -> 0 ;", impl.Filter{}, 0, 0},
		{"filter 1k dest 0xffff/1m->1000m;", impl.Filter{Prio: 1000, Field: 1, Value: 65535, Mask: 1000000, Target: 1000000000}, 0, 0},
		{"filter 8 mark 9 / 10 -> 11", impl.Filter{}, impl.ErEnd, 26},
		{"filter 8 mark 9 / 10 -> 11 # ;", impl.Filter{}, impl.ErEnd, 30},
		{"filter", impl.Filter{}, impl.ErEnd, 6},
		{"filter 8 mark 9 / 10 -> 11;;", impl.Filter{}, impl.ErToken, 27},
		{"filter 8 mark 9 / 10 -> 11; filter 8 mark 9 / 10 -> 11;", impl.Filter{}, impl.ErToken, 28},
		{"filter 8 mark 9 / 10 -> 11; class", impl.Filter{}, impl.ErToken, 28},
		{"filter 8 mark 9 / 10 -> 11; }", impl.Filter{}, impl.ErToken, 28},
		{"filter 8 limit 9 / 10 -> 11;", impl.Filter{}, impl.ErToken, 9},
		{"filter 8 9 / 10 -> 11;", impl.Filter{}, impl.ErToken, 9},
		{"filter mark 9 / 10 -> 11;", impl.Filter{}, impl.ErToken, 7},
		{"filter 8 mark 9 -> 11;", impl.Filter{}, impl.ErToken, 16},
		{"filter 8 mark 9 / 10 / 11;", impl.Filter{}, impl.ErToken, 21},
		{"8 mark 9 / 10 -> 11;", impl.Filter{}, impl.ErToken, 0},
		{"qdisc a { }", impl.Filter{}, impl.ErToken, 0},
		{leavesText(1), impl.Filter{}, impl.ErToken, 0},
		{"filter 8 mark 9 / 10 -> 11; 01", impl.Filter{}, impl.ErNumber, 28},
		{"filter 8 8 - a1", impl.Filter{}, impl.ErByte, 11},
		{"filter 8 mark 9 / a1 -> 11;", impl.Filter{}, impl.ErName, 18},
		{filtersText(1) + strings.Repeat(";", 592), impl.Filter{}, impl.ErCount, 21 + 591},
	} {
		if x, fault, ok := impl.ParseFilter(c.s); x != c.filter || fault != (impl.Fault{Kind: c.kind, At: c.at}) || !ok {
			t.Errorf("ParseFilter(%.60q) = %v, %v, %v", c.s, x, fault, ok)
		}
	}
}

func TestParseLeaf(t *testing.T) {
	leaf := impl.Class{Id: 1, Parent: 12, Rate: 2, Ceil: 3, Burst: 4, Cburst: 5, Prio: 6, Limit: 7}
	for _, c := range []struct {
		s        string
		class    impl.Class
		kind, at int
	}{
		{"class 1 rate 2 ceil 3 burst 4 cburst 5 prio 6 limit 7;", leaf, 0, 0},
		{"\nclass 1\\\nrate 2#\nceil 3 burst 4 cburst 5 prio 6 limit 7 ; #", leaf, 0, 0},
		{"class 0 rate 0 ceil 0 burst 0 cburst 0 prio 0 limit 0;", impl.Class{Parent: 12}, 0, 0},
		{"class 1k rate 0xff ceil 1m burst 1000m cburst 2k prio 3k limit 0x0;",
			impl.Class{Id: 1000, Parent: 12, Rate: 255, Ceil: 1000000, Burst: 1000000000, Cburst: 2000, Prio: 3000}, 0, 0},
		{"class 1 rate 2 ceil 3 burst 4 cburst 5 prio 6 limit 7", impl.Class{}, impl.ErEnd, 53},
		{"class 1 rate 2 ceil 3 burst 4 cburst 5 prio 6 ", impl.Class{}, impl.ErEnd, 46},
		{"class", impl.Class{}, impl.ErEnd, 5},
		{"class 1 rate 2 ceil 3 burst 4 cburst 5 prio 6 { }", impl.Class{}, impl.ErToken, 46},
		{"class 1 rate 2 ceil 3 burst 4 cburst 5 prio 6;", impl.Class{}, impl.ErToken, 45},
		{"class 1 rate 2 ceil 3 burst 4 cburst 5 prio 6 limit 7;;", impl.Class{}, impl.ErToken, 54},
		{"class 1 rate 2 ceil 3 burst 4 cburst 5 prio 6 limit 7;class", impl.Class{}, impl.ErToken, 54},
		{leavesText(25), impl.Class{}, impl.ErToken, 54},
		{"class 1 ceil 3 rate 2 burst 4 cburst 5 prio 6 limit 7;", impl.Class{}, impl.ErToken, 8},
		{"class a rate 2 ceil 3 burst 4 cburst 5 prio 6 limit 7;", impl.Class{}, impl.ErToken, 6},
		{"1 rate 2", impl.Class{}, impl.ErToken, 0},
		{filtersText(1), impl.Class{}, impl.ErToken, 0},
		{"qdisc a { }", impl.Class{}, impl.ErToken, 0},
		{"class 1 rate 2 ceil 3 burst 4 cburst 5 prio 6 limit 7;-", impl.Class{}, impl.ErByte, 54},
		{"class class 01", impl.Class{}, impl.ErNumber, 12},
		{"class a1", impl.Class{}, impl.ErName, 6},
	} {
		if x, fault, ok := impl.ParseLeaf(c.s, 12); x != c.class || fault != (impl.Fault{Kind: c.kind, At: c.at}) || !ok {
			t.Errorf("ParseLeaf(%.60q, 12) = %v, %v, %v", c.s, x, fault, ok)
		}
	}
}

func TestParentsOfParseLeaf(t *testing.T) {
	for _, parent := range append([]int{0, 1, 7, 12, 998, 999, 1000}, extremes...) {
		isValid := 0 <= parent && parent <= 999
		var leaf impl.Class
		var fault impl.Fault
		if isValid {
			leaf = impl.Class{Id: 7, Parent: parent, Rate: 1, Ceil: 2, Burst: 3, Cburst: 4, Prio: 5, Limit: 6}
			fault = impl.Fault{Kind: impl.ErToken, At: 6}
		}
		if x, f, ok := impl.ParseLeaf(leavesText(1), parent); x != leaf || f != (impl.Fault{}) || ok != isValid {
			t.Errorf("ParseLeaf with the Parent %d = %v, %v, %v", parent, x, f, ok)
		}
		if x, f, ok := impl.ParseLeaf("class rate", parent); x != (impl.Class{}) || f != fault || ok != isValid {
			t.Errorf("ParseLeaf of a text with a fault and the Parent %d = %v, %v, %v", parent, x, f, ok)
		}
	}
}

func TestNumbersWithUnits(t *testing.T) {
	for _, c := range []struct {
		text  string
		value int
	}{
		{"0", 0}, {"1", 1}, {"1500", 1500}, {"2k", 2000}, {"2000", 2000}, {"3m", 3000000}, {"3000k", 3000000}, {"1000m", 1000000000}, {"1000000000", 1000000000},
		{"0x0", 0}, {"0x1f", 31}, {"0xffff", 65535},
	} {
		x := impl.Class{Id: c.value, Rate: c.value, Ceil: c.value, Burst: c.value, Cburst: c.value, Prio: c.value, Limit: c.value}
		y := impl.Filter{Prio: c.value, Field: 1, Value: c.value, Mask: c.value, Target: c.value}
		written := func(int) string { return c.text }
		s := "qdisc a default " + c.text + "{" + leafText(x, written) + filterText(y, written) + "}"
		want := impl.Config{Name: "a", Classes: []impl.Class{x}, Filters: []impl.Filter{y}, Default: c.value}
		if got, fault, ok := impl.ParseRaw(s); !sameConfig(got, want) || fault.Kind != 0 || !ok {
			t.Errorf("ParseRaw(%q) = %v, %v, %v", s, got, fault, ok)
		}
	}
	checkFaults(t, []faultCase{
		{"qdisc a default 00 {}", impl.ErNumber, 16, -1}, {"qdisc a default 1001m {}", impl.ErNumber, 16, -1}, {"qdisc a default 0k {}", impl.ErNumber, 16, -1},
		{"qdisc a default 2kk {}", impl.ErNumber, 16, -1}, {"qdisc a default 0x10000 {}", impl.ErNumber, 16, -1}, {"qdisc a default k {}", impl.ErToken, 16, 3},
		{"qdisc a default -1 {}", impl.ErByte, 16, -1}, {"qdisc a default 2K {}", impl.ErByte, 17, -1}, {"qdisc a default 2 k {}", impl.ErToken, 18, 4},
	})
}

func TestStringsThatAreNoTextsAreNotParsed(t *testing.T) {
	for _, s := range tooLongTexts() {
		if c, fault, ok := impl.ParseRaw(s); !isZeroConfig(c) || fault != (impl.Fault{}) || ok {
			t.Errorf("ParseRaw(%.20q) = %v, %v, %v", s, c, fault, ok)
		}
		if c, ok := impl.ParseConfig(s); !isZeroConfig(c) || ok {
			t.Errorf("ParseConfig(%.20q) = %v, %v", s, c, ok)
		}
		if fault, ok := impl.FaultOf(s); fault != (impl.Fault{}) || ok {
			t.Errorf("FaultOf(%.20q) = %v, %v", s, fault, ok)
		}
		if n, ok := impl.RightTokens(s); n != 0 || ok {
			t.Errorf("RightTokens(%.20q) = %d, %v", s, n, ok)
		}
		if l, ok := impl.NextTexts(s); len(l) != 0 || ok {
			t.Errorf("NextTexts(%.20q) = %v, %v", s, l, ok)
		}
		if x, fault, ok := impl.ParseFilter(s); x != (impl.Filter{}) || fault != (impl.Fault{}) || ok {
			t.Errorf("ParseFilter(%.20q) = %v, %v, %v", s, x, fault, ok)
		}
		if x, fault, ok := impl.ParseLeaf(s, 1); x != (impl.Class{}) || fault != (impl.Fault{}) || ok {
			t.Errorf("ParseLeaf(%.20q, 1) = %v, %v, %v", s, x, fault, ok)
		}
		if n, ok := impl.DeepestClass(s); n != 0 || ok {
			t.Errorf("DeepestClass(%.20q) = %d, %v", s, n, ok)
		}
	}
}
