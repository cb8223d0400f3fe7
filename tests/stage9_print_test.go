package tests

import (
	"fmt"
	"slices"
	"strings"
	"testing"

	"loop.example/g00838/impl"
)

// Promise 9: canonical texts are read back, and the canonical text of any text is canonical.

// checkText compares what PrintConfig returns with a text.
func checkText(t *testing.T, c impl.Config, want string, ok bool) {
	t.Helper()
	if got, gotOk := impl.PrintConfig(c); got != want || gotOk != ok {
		t.Fatalf("PrintConfig(%s) = %q, %v and not %q", briefly(c), got, gotOk, want)
	}
}

// checkReadBack checks that a text is the canonical one of a configuration, by all functions that read it.
func checkReadBack(t *testing.T, c impl.Config, text string) {
	t.Helper()
	if d, ok := impl.ParseConfig(text); !sameConfig(d, c) || !ok {
		t.Fatalf("ParseConfig(%q) = %v, %v and not %v", text, d, ok, c)
	}
	if again, ok := impl.CanonicalText(text); again != text || !ok {
		t.Fatalf("CanonicalText(%q) = %q, %v", text, again, ok)
	}
	if !impl.IsCanonicalText(text) {
		t.Fatalf("IsCanonicalText(%q) is false", text)
	}
}

// checkReading checks that any string has the canonical text of its configuration, if it has one, and is canonical exactly if it is this text.
func checkReading(t *testing.T, s string) {
	t.Helper()
	c, ok := impl.ParseConfig(s)
	want := ""
	if ok {
		want = slowPrint(c).text()
		checkReadBack(t, c, want)
	}
	if text, gotOk := impl.CanonicalText(s); text != want || gotOk != ok {
		t.Fatalf("CanonicalText(%q) = %q, %v and not %q", s, text, gotOk, want)
	}
	if is := impl.IsCanonicalText(s); is != (ok && s == want) {
		t.Fatalf("IsCanonicalText(%q) = %v", s, is)
	}
}

func TestPrintConfig(t *testing.T) {
	deep, _ := impl.WitnessOf(8)
	for _, x := range []struct {
		config impl.Config
		want   string
	}{
		{crossed(), crossedText},
		{measured(), measuredText},
		// A top that is a leaf, with and without a Default.
		{single(), "qdisc a default 1 {\n  class 1 rate 1 ceil 1 burst 1500 cburst 1500 prio 0 limit 1;\n}\n"},
		{configOf(leafClass(999, 0)), "qdisc a {\n  class 999 rate 1 ceil 1 burst 1500 cburst 1500 prio 0 limit 1;\n}\n"},
		{
			changed(single(), func(c *impl.Config) { c.Filters = []impl.Filter{{Prio: 7, Field: 1, Mask: 1, Target: 1}} }),
			"qdisc a default 1 {\n  class 1 rate 1 ceil 1 burst 1500 cburst 1500 prio 0 limit 1;\n  filter 7 dest 0x0 / 0x1 -> 1;\n}\n",
		},
		// Three children on both sides of their parent, in order.
		{configOf(leafClass(9, 5), leafClass(2, 5), innerClass(5, 0, 3), leafClass(7, 5)), `qdisc a {
  class 5 rate 3 ceil 3 burst 1500 cburst 1500 prio 0 {
    class 2 rate 1 ceil 1 burst 1500 cburst 1500 prio 0 limit 1;
    class 7 rate 1 ceil 1 burst 1500 cburst 1500 prio 0 limit 1;
    class 9 rate 1 ceil 1 burst 1500 cburst 1500 prio 0 limit 1;
  }
}
`},
		{deep, `qdisc deep default 8 {
  class 1 rate 800 ceil 800 burst 1500 cburst 1500 prio 0 {
    class 2 rate 700 ceil 700 burst 1500 cburst 1500 prio 0 {
      class 3 rate 600 ceil 600 burst 1500 cburst 1500 prio 0 {
        class 4 rate 500 ceil 500 burst 1500 cburst 1500 prio 0 {
          class 5 rate 400 ceil 400 burst 1500 cburst 1500 prio 0 {
            class 6 rate 300 ceil 300 burst 1500 cburst 1500 prio 0 {
              class 7 rate 200 ceil 200 burst 1500 cburst 1500 prio 0 {
                class 8 rate 100 ceil 100 burst 1500 cburst 1500 prio 0 limit 1;
              }
            }
          }
        }
      }
    }
  }
}
`},
	} {
		checkText(t, x.config, x.want, true)
		checkReadBack(t, x.config, x.want)
	}
}

func TestADefaultIsPrintedIfThereIsOne(t *testing.T) {
	for id, beginning := range map[int]string{0: "eth {", 1: "eth default 1 {", 5: "eth default 5 {", 20: "eth default 20 {", 60: "eth default 60 {"} {
		c := changed(crossed(), func(c *impl.Config) { c.Default = id })
		want := strings.Replace(crossedText, "eth default 5 {", beginning, 1)
		checkText(t, c, want, true)
		checkReadBack(t, c, want)
	}
	zero := strings.Replace(crossedText, "default 5", "default 0", 1)
	without := strings.Replace(crossedText, " default 5", "", 1)
	if text, ok := impl.CanonicalText(zero); text != without || !ok || impl.IsCanonicalText(zero) {
		t.Errorf("CanonicalText(%q) = %q, %v", zero, text, ok)
	}
}

func TestFiltersArePrintedInOrder(t *testing.T) {
	for count := range impl.MaxFilters + 1 {
		c, want := crowded(), ""
		c.Filters = c.Filters[:count]
		for i := range count {
			field := []string{"dest", "port", "mark", "source"}[i%4]
			want += fmt.Sprintf("\n  filter %d %s 0x%x / 0xffff -> 24;", i+1, field, i+1)
		}
		text, ok := impl.PrintConfig(c)
		if !ok || !strings.HasSuffix(text, "limit 1;\n  }"+want+"\n}\n") || strings.Count(text, "filter") != count {
			t.Fatalf("PrintConfig of %d filters = %q, %v", count, text, ok)
		}
		checkReadBack(t, c, text)
	}
}

func TestPromise9CanonicalTextsAreReadBack(t *testing.T) {
	for _, c := range printedConfigs() {
		want := slowPrint(c).text()
		checkText(t, c, want, true)
		checkReadBack(t, c, want)
	}
}

func TestPromise9TheLongestTextIsReadBack(t *testing.T) {
	text, ok := impl.PrintConfig(longest())
	tokens, _, _ := impl.TokensOf(text)
	if !ok || len(text) < 2800 || len(text) > impl.MaxBytes || len(tokens) < 500 {
		t.Errorf("PrintConfig = %q, %v of %d bytes and %d tokens", text, ok, len(text), len(tokens))
	}
	checkReadBack(t, longest(), text)
}

func TestPromise9TheCanonicalTextOfAnyTextIsCanonical(t *testing.T) {
	for _, s := range slices.Concat(rawTexts(), otherTexts(), tooLongTexts(), sampleTexts(), sampleSources(), sampleParts()) {
		checkReading(t, s)
	}
	for i, c := range printedConfigs() {
		want := slowPrint(c).text()
		for _, s := range []string{sourceOf(c, plainText), sourceOf(c, numberWriter(diceFor(i))), " " + want, want + "#"} {
			checkReading(t, s)
			if text, ok := impl.CanonicalText(s); text != want || !ok || impl.IsCanonicalText(s) {
				t.Fatalf("CanonicalText(%q) = %q, %v", s, text, ok)
			}
		}
	}
}

func TestPromise9SpoiledTexts(t *testing.T) {
	for seed := range 600 {
		dice := diceFor(2000 + seed)
		c := randomConfig(seed)
		checkReading(t, spoiled(dice, tokenTexts(slowPrint(c).text())))
		checkReading(t, spoiled(dice, tokenTexts(sourceOf(c, plainText))))
	}
}

// TestTextsWithTheSameConfiguration has changes of canonical texts after which they are other texts of the same configurations.
func TestTextsWithTheSameConfiguration(t *testing.T) {
	first, second := "  filter 1 source 0x0 / 0x0 -> 12;\n", "  filter 2 dest 0x0 / 0xffff -> 999;\n"
	leaf := "    class 12 rate 9k ceil 9500 burst 2k cburst 2500 prio 1 limit 10;\n"
	other := "    class 999 rate 999 ceil 1k burst 999999 cburst 1m prio 2 limit 60;\n"
	for _, x := range [][2]string{
		// Space.
		{"qdisc abcdefgh", "qdisc  abcdefgh"}, {"qdisc", "\nqdisc"}, {"qdisc abcdefgh", "qdisc\tabcdefgh"}, {"  class 3", " class 3"},
		{"  class 3", "    class 3"}, {"  class 3", "\tclass 3"}, {"prio 7 {", "prio 7{"}, {"limit 10;", "limit 10 ;"},
		{"{\n", "{ \n"}, {"{\n", "{\n\n"}, {"{\n", "{"}, {" / ", "/"}, {" -> ", "->"}, {"rate 9k", "\\\nrate 9k"}, {"\n}\n", "\n }\n"}, {"  }\n", "}\n"},
		{"\n}\n", "\n}"}, {"\n}\n", "\n}\n\n"}, {"\n}\n", "\n} \n"}, {"\n}\n", "\n}\n "}, {"\n}\n", "\n}\n#"}, {"\n}\n", "\n}\n\\\n"}, {"\n}\n", "}"},
		// Comments.
		{"{\n", "{ # all\n"}, {"qdisc", "#\nqdisc"}, {"limit 10;\n", "limit 10;#;\n"},
		// Numbers.
		{"rate 100k", "rate 100000"}, {"rate 9k", "rate 9000"}, {"burst 1m", "burst 1000k"}, {"burst 1m", "burst 1000000"}, {"cburst 999k", "cburst 999000"},
		{"ceil 9500", "ceil 0x251c"}, {"prio 7", "prio 0x7"}, {"class 12", "class 0xc"}, {"limit 10", "limit 0xa"}, {"default 12", "default 0xc"},
		{"filter 98", "filter 0x62"}, {"0xffff / 0xffff", "65535 / 0xffff"}, {"0xffff / 0xffff", "0xffff / 65535"}, {"0x1000 / 0x1000", "4096 / 4096"},
		{"0x0 / 0x0", "0 / 0x0"}, {"0x1000 / 0x1000", "0x1000 / 4096"}, {"-> 999", "-> 0x3e7"},
		// The order of parts.
		{leaf + other, other + leaf}, {first + second, second + first},
	} {
		s := strings.Replace(measuredText, x[0], x[1], 1)
		if text, ok := impl.CanonicalText(s); s == measuredText || text != measuredText || !ok || impl.IsCanonicalText(s) {
			t.Errorf("CanonicalText(%q) = %q, %v", s, text, ok)
		}
		checkReading(t, s)
	}
}

// TestTextsWithoutAConfiguration has changes of a canonical text after which there is a fault in it, or its configuration is not valid.
func TestTextsWithoutAConfiguration(t *testing.T) {
	for _, x := range [][2]string{
		{"qdisc", "qdis"}, {"{", ""}, {"}", ""}, {"}\n", "}}\n"}, {";", ""}, {"9k", "9x"}, {"9k", "09k"}, {" / ", " "}, {"mark", "rate"}, {"prio 7 {", "prio 7 ;"},
		{"  filter", "  class 4 rate 1 ceil 1 burst 1500 cburst 1500 prio 0 filter"}, {"0xffff", "0xFFFF"}, {"limit 10;", "limit 10; \x00"}, {"limit 10;\n", "limit 10;\r\n"},
		{"abcdefgh", "abcdefghi"}, {"abcdefgh", "rate"}, {"default 12", "default 3"}, {"default 12", "default 4"}, {"class 3", "class 12"}, {"class 12", "class 999"},
		{"class 999", "class 1k"}, {"rate 9k", "rate 9501"}, {"rate 100k", "rate 9998"}, {"burst 2k", "burst 1499"}, {"cburst 1m", "cburst 1001k"},
		{"prio 7", "prio 8"}, {"limit 60", "limit 61"}, {"limit 10", "limit 0"}, {"filter 2", "filter 1"}, {"filter 99", "filter 100"},
		{"0x0 / 0x0", "0x1 / 0x0"}, {"-> 12", "-> 3"}, {"-> 12", "-> 0"}, {"  filter 1 ", "  class 4 rate 1 ceil 1 burst 1500 cburst 1500 prio 0 limit 1;\n  filter 1 "},
	} {
		s := strings.Replace(measuredText, x[0], x[1], 1)
		if text, ok := impl.CanonicalText(s); s == measuredText || text != "" || ok || impl.IsCanonicalText(s) {
			t.Errorf("CanonicalText(%q) = %q, %v", s, text, ok)
		}
		checkReading(t, s)
	}
	for _, s := range []string{"", "\n", "qdisc a {\n}\n", "qdisc a {}", "}\n", strings.Repeat(measuredText, 2), measuredText + strings.Repeat(" ", 4000)} {
		if text, ok := impl.CanonicalText(s); text != "" || ok || impl.IsCanonicalText(s) {
			t.Errorf("CanonicalText(%q) = %q, %v", s, text, ok)
		}
	}
}

func TestEveryByteOfACanonicalTextCounts(t *testing.T) {
	for _, text := range []string{crossedText, measuredText} {
		for i := range text {
			checkReading(t, text[:i])
			checkReading(t, text[i:])
			for _, with := range []string{"", text[i:i+1] + text[i:i+1], " ", "\n", "0", "7", "k", "a", ";", "}", "#", "\x00"} {
				checkReading(t, text[:i]+with+text[i+1:])
			}
		}
	}
}

func TestInvalidConfigsAreNotPrinted(t *testing.T) {
	for _, c := range mixedConfigs() {
		if firstBroken(c) == 0 {
			checkText(t, c, slowPrint(c).text(), true)
		} else {
			checkText(t, c, "", false)
		}
	}
}
