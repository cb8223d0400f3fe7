package tests

import (
	"regexp"
	"slices"
	"strconv"
	"strings"
	"testing"

	"loop.example/g00838/impl"
)

// Promise 3: tokens lie in a text one after the other, and joined ones are these tokens again.

var (
	spaceForm  = regexp.MustCompile(`\A([ \t\n]|\\\n|#[\t -~]*)*`)
	wordForm   = regexp.MustCompile(`\A[a-z][a-z0-9]*`)
	numberForm = regexp.MustCompile(`\A[0-9][a-z0-9]*`)
	signForm   = regexp.MustCompile(`\A([{};/=]|->)`)
	rightWord  = regexp.MustCompile(`\A[a-z]{1,12}\z`)
)

var keys = []string{
	"qdisc", "default", "class", "rate", "ceil", "burst", "cburst",
	"prio", "limit", "filter", "source", "dest", "port", "mark",
}

// kindNames are what the lists of tokens in these tests call the kinds.
var kindNames = []string{"none", "key", "name", "number", "sign"}

// slowTokenAt finds a token by regular expressions, and its number by those of chapter 2.
func slowTokenAt(s string, at int) (impl.Token, int, impl.Fault) {
	start := at + len(spaceForm.FindString(s[at:]))
	if start == len(s) {
		return impl.Token{}, start, impl.Fault{}
	}
	fault := func(kind int) (impl.Token, int, impl.Fault) {
		return impl.Token{}, start, faultAt(kind, start)
	}
	token := func(kind int, text string, value int) (impl.Token, int, impl.Fault) {
		return impl.Token{Kind: kind, At: start, Text: text, Value: value}, start + len(text), impl.Fault{}
	}
	if text := wordForm.FindString(s[start:]); text != "" {
		if !rightWord.MatchString(text) {
			return fault(impl.ErName)
		}
		if slices.Contains(keys, text) {
			return token(impl.TkKey, text, 0)
		}
		return token(impl.TkName, text, 0)
	}
	if text := numberForm.FindString(s[start:]); text != "" {
		dec, okDec := slowDecimal(text)
		hex, okHex := slowHexadecimal(text)
		if !okDec && !okHex {
			return fault(impl.ErNumber)
		}
		return token(impl.TkNumber, text, dec+hex)
	}
	if text := signForm.FindString(s[start:]); text != "" {
		return token(impl.TkSign, text, 0)
	}
	return fault(impl.ErByte)
}

// slowTokensOf finds all tokens, or the first fault.
func slowTokensOf(s string) ([]impl.Token, impl.Fault) {
	var tokens []impl.Token
	for at := 0; ; {
		token, end, fault := slowTokenAt(s, at)
		if fault.Kind != 0 {
			return nil, fault
		}
		if token.Kind == 0 {
			return tokens, impl.Fault{}
		}
		if len(tokens) == 600 {
			return nil, faultAt(impl.ErCount, token.At)
		}
		tokens = append(tokens, token)
		at = end
	}
}

// tokenWords describe tokens without their places.
func tokenWords(list []impl.Token) []string {
	var words []string
	for _, x := range list {
		words = append(words, kindNames[x.Kind]+" "+x.Text+" of "+strconv.Itoa(x.Value))
	}
	return words
}

// checkTokensLie checks that tokens of a text have their texts in it, one after the other, with space alone around them.
func checkTokensLie(t *testing.T, s string, list []impl.Token) {
	t.Helper()
	end := 0
	for _, x := range list {
		if start, ok := impl.SkipSpace(s, end); start != x.At || !ok {
			t.Fatalf("%.60q: space from %d ends at %d, %v, and the token behind it is %v", s, end, start, ok, x)
		}
		if !strings.HasPrefix(s[x.At:], x.Text) || !impl.IsToken(x) {
			t.Fatalf("%.60q has the token %v", s, x)
		}
		if again, _, _, ok := impl.TokenAt(s, x.At); again != x || !ok {
			t.Fatalf("%.60q has the tokens %v and %v, %v", s, x, again, ok)
		}
		end = x.At + len(x.Text)
	}
	if last, ok := impl.SkipSpace(s, end); last != len(s) || !ok {
		t.Fatalf("%.60q: behind the last token, space ends at %d, %v", s, last, ok)
	}
}

// checkTokensJoined checks that the tokens of a text are those of their joined texts.
func checkTokensJoined(t *testing.T, s string, list []impl.Token) {
	t.Helper()
	joined, ok := impl.JoinTokens(list)
	again, fault, okAgain := impl.TokensOf(joined)
	if !ok || fault.Kind != 0 || !okAgain || !slices.Equal(tokenWords(again), tokenWords(list)) {
		t.Fatalf("%.60q joined is %.60q, %v with the tokens %v, %v, %v", s, joined, ok, again, fault, okAgain)
	}
	if spaced, ok := impl.SpacedText(s); spaced != joined || !ok {
		t.Fatalf("SpacedText(%.60q) = %.60q, %v", s, spaced, ok)
	}
	if spaced, ok := impl.SpacedText(joined); spaced != joined || !ok {
		t.Fatalf("SpacedText(%.60q) = %.60q, %v", joined, spaced, ok)
	}
	if same, ok := impl.SameTokens(s, joined); !same || !ok {
		t.Fatalf("SameTokens(%.60q, %.60q) = %v, %v", s, joined, same, ok)
	}
	counts, ok := impl.CountTokens(list)
	want := make([]int, 4)
	for _, x := range list {
		want[x.Kind-1]++
	}
	if !slices.Equal(counts, want) || !ok {
		t.Fatalf("CountTokens(%v) = %v, %v", list, counts, ok)
	}
}

// checkTokens checks a text at each index of it, which takes long if it is long.
func checkTokens(t *testing.T, s string) {
	t.Helper()
	for at := range len(s) + 1 {
		token, end, fault := slowTokenAt(s, at)
		if gotToken, gotEnd, gotFault, ok := impl.TokenAt(s, at); gotToken != token || gotEnd != end || gotFault != fault || !ok {
			t.Fatalf("TokenAt(%.60q, %d) = %v, %d, %v, %v", s, at, gotToken, gotEnd, gotFault, ok)
		}
		if start, ok := impl.SkipSpace(s, at); start != at+len(spaceForm.FindString(s[at:])) || !ok {
			t.Fatalf("SkipSpace(%.60q, %d) = %d, %v", s, at, start, ok)
		}
	}
	want, wantFault := slowTokensOf(s)
	list, fault, ok := impl.TokensOf(s)
	if !slices.Equal(list, want) || fault != wantFault || !ok {
		t.Fatalf("TokensOf(%.60q) = %v, %v, %v", s, list, fault, ok)
	}
	if fault.Kind == 0 {
		checkTokensLie(t, s, list)
		checkTokensJoined(t, s, list)
		return
	}
	if spaced, ok := impl.SpacedText(s); spaced != "" || ok {
		t.Fatalf("SpacedText(%.60q) = %.60q, %v", s, spaced, ok)
	}
	if same, ok := impl.SameTokens(s, s); same || ok {
		t.Fatalf("SameTokens(%.60q) of itself = %v, %v", s, same, ok)
	}
}

func TestPromise3EveryShortTextHasItsTokens(t *testing.T) {
	everyString("a0-># \n\\;", 5, func(s string) { checkTokens(t, s) })
	everyString("#\t\\\n\x00a", 6, func(s string) { checkTokens(t, s) })
	everyString("az059km/", 5, func(s string) { checkTokens(t, s) })
	everyString("{}=->/", 5, func(s string) { checkTokens(t, s) })
	everyString("0xf1 ", 6, func(s string) { checkTokens(t, s) })
	for b := range 256 {
		letter := string([]byte{byte(b)})
		for _, s := range []string{"", "a", "0", "-", "#", "\\", " ", "ab", "10"} {
			checkTokens(t, letter+s)
			checkTokens(t, s+letter)
			checkTokens(t, s+letter+"a")
			checkTokens(t, s+letter+"\nb")
		}
	}
}

func TestPromise3TextsHaveTheirTokens(t *testing.T) {
	for _, s := range sampleTexts() {
		if len(s) <= 2000 {
			checkTokens(t, s)
		}
	}
	parts := slices.Concat(keys, []string{
		"a", "zz", "twelveletter", "ratesandmore", "0", "17", "2k", "3m", "0x1f", "1000m", "{", "}", ";", "/", "=", "->",
		" ", "\t", "\n", "\\\n", "# x -> \\\n", "#\n", " ",
	})
	for seed := range uint32(3000) {
		var text strings.Builder
		for _, b := range noise(int(seed%40), seed) {
			text.WriteString(parts[int(b)%len(parts)])
			if b&64 != 0 {
				text.WriteString(" ")
			}
		}
		checkTokens(t, text.String())
	}
}

func TestPromise3AConfigurationHasItsTokens(t *testing.T) {
	list, fault, ok := impl.TokensOf("qdisc a default 12 { # the top\n\tclass 1 rate 10k ceil 0xff burst 1500;\\\n}\nfilter 1 port 7/0xffff -> 2;# end")
	want := []string{
		"key qdisc", "name a", "key default", "number 12", "sign {", "key class", "number 1", "key rate", "number 10k", "key ceil",
		"number 0xff", "key burst", "number 1500", "sign ;", "sign }", "key filter", "number 1", "key port", "number 7", "sign /",
		"number 0xffff", "sign ->", "number 2", "sign ;",
	}
	if fault != (impl.Fault{}) || !ok || len(list) != len(want) {
		t.Fatal(list, fault, ok)
	}
	for i, x := range list {
		if kindNames[x.Kind]+" "+x.Text != want[i] {
			t.Errorf("token %d is %v and not %s", i, x, want[i])
		}
	}
	if list[8].Value != 10000 || list[10].Value != 255 || list[20].Value != 65535 {
		t.Error(list)
	}
}

func TestIsKey(t *testing.T) {
	for _, s := range keys {
		if !impl.IsKey(s) {
			t.Errorf("%q is no key word", s)
		}
		for _, other := range []string{s + "s", s[1:], s[:len(s)-1], " " + s, s + " ", strings.ToUpper(s), strings.ToUpper(s[:1]) + s[1:], s + s, s + "\x00"} {
			// What is left of cburst is one too.
			if impl.IsKey(other) != (other == "burst") {
				t.Errorf("IsKey(%q) = %v", other, impl.IsKey(other))
			}
		}
	}
	for _, s := range []string{"", " ", "a", "deep", "2k", ";", "->", "field", "\xff", strings.Repeat("rate", 2000)} {
		if impl.IsKey(s) {
			t.Errorf("%.40q is a key word", s)
		}
	}
}

func TestSkipSpace(t *testing.T) {
	for _, c := range []struct {
		s       string
		at, end int
		ok      bool
	}{
		{" #x\n a", 0, 5, true},
		{" #x\n a", 1, 5, true},
		{" #x\n a", 2, 2, true}, // inside the comment nothing tells that it is one
		{" #x\n a", 3, 5, true},
		{" #x\n a", 5, 5, true},
		{" #x\n a", 6, 6, true},
		{" #x\n a", 7, 0, false},
		{" #x\n a", -1, 0, false},
		{" #x\n a", 1<<63 - 1, 0, false},
		{" #x\n a", -1 << 63, 0, false},
		{"", 0, 0, true},
		{"", 1, 0, false},
		{"a", 0, 0, true},
		{" \t\n", 0, 3, true},
		{"\r", 0, 0, true},
		{" \r", 0, 1, true},
		{"\v\f", 0, 0, true},
		{"\x00", 0, 0, true},
		{" \u00a0", 0, 1, true},
		{" \u2028", 0, 1, true},
		{"#", 0, 1, true}, // a comment may end the text
		{"a #", 1, 3, true},
		{"a # x", 1, 5, true},
		{"##", 0, 2, true},
		{"#a#b\n#c\nd", 0, 8, true},
		{"#\n", 0, 2, true},
		{"# \t~}\nx", 0, 6, true},
		{"#a\x00b", 0, 2, true}, // a byte that is not plain ends a comment
		{"#a\rb", 0, 2, true},
		{"#a\x7f\n", 0, 2, true},
		{"#a\u00e9\n", 0, 2, true},
		{"#a\xff\n", 0, 2, true},
		{"#\u0123", 0, 1, true}, // its rune ends like that of a plain byte
		{"\\\n", 0, 2, true},
		{"\\\n", 1, 2, true},
		{"\\\n\\\na", 0, 4, true},
		{" \\\n #x", 0, 6, true},
		{"\\", 0, 0, true},
		{" \\", 0, 1, true},
		{"\\a", 0, 0, true},
		{"\\ \n", 0, 0, true},
		{"\\\r\n", 0, 0, true},
		{"\\\\\n", 0, 0, true},
		{"\\\\\n", 1, 3, true},
		{"\n\\a", 0, 1, true},
		{"#a\\\nb", 0, 4, true}, // the comment is not continued
		{"#\\a", 0, 3, true},
		{"#\\", 0, 2, true},
		{strings.Repeat(" ", 4000), 0, 4000, true},
		{strings.Repeat(" ", 4000), 4000, 4000, true},
		{"#" + strings.Repeat("x", 3999), 0, 4000, true},
		{strings.Repeat(" ", 4001), 0, 0, false},
		{strings.Repeat("\x00", 4001), 4001, 0, false},
	} {
		if end, ok := impl.SkipSpace(c.s, c.at); end != c.end || ok != c.ok {
			t.Errorf("SkipSpace(%.40q of %d bytes, %d) = %d, %v", c.s, len(c.s), c.at, end, ok)
		}
	}
}

// tokenCase is a text with one token from an index on, or with none.
type tokenCase struct {
	s     string
	at    int
	token impl.Token
	end   int
	fault impl.Fault
}

func TestTokenAt(t *testing.T) {
	for _, c := range []tokenCase{
		{"a -> 2k", 1, impl.Token{Kind: impl.TkSign, At: 2, Text: "->"}, 4, impl.Fault{}},
		{"a -> 2k", 0, impl.Token{Kind: impl.TkName, At: 0, Text: "a"}, 1, impl.Fault{}},
		{"a -> 2k", 4, impl.Token{Kind: impl.TkNumber, At: 5, Text: "2k", Value: 2000}, 7, impl.Fault{}},
		{"a -> 2k", 7, impl.Token{}, 7, impl.Fault{}},
		{"a -> 2k", 3, impl.Token{}, 3, faultAt(impl.ErByte, 3)},
		{"a -> 2k", 6, impl.Token{Kind: impl.TkName, At: 6, Text: "k"}, 7, impl.Fault{}},
		{"", 0, impl.Token{}, 0, impl.Fault{}},
		{"  ", 1, impl.Token{}, 2, impl.Fault{}},
		{"a # x", 1, impl.Token{}, 5, impl.Fault{}}, // a comment ends the text
		{"a#", 1, impl.Token{}, 2, impl.Fault{}},
		{"#\\", 0, impl.Token{}, 2, impl.Fault{}},
		{"a\\\n", 1, impl.Token{}, 3, impl.Fault{}},
		{"\\\nrate", 0, impl.Token{Kind: impl.TkKey, At: 2, Text: "rate"}, 6, impl.Fault{}},
		{"ra\\\nte", 0, impl.Token{Kind: impl.TkName, At: 0, Text: "ra"}, 2, impl.Fault{}}, // space ends a word
		{" \\", 0, impl.Token{}, 1, faultAt(impl.ErByte, 1)},
		{"\\a", 0, impl.Token{}, 0, faultAt(impl.ErByte, 0)},
		{" \\\r\n", 0, impl.Token{}, 1, faultAt(impl.ErByte, 1)},
		{"# \x00", 0, impl.Token{}, 2, faultAt(impl.ErByte, 2)},
		{"rate", 0, impl.Token{Kind: impl.TkKey, At: 0, Text: "rate"}, 4, impl.Fault{}},
		{"rates", 0, impl.Token{Kind: impl.TkName, At: 0, Text: "rates"}, 5, impl.Fault{}},
		{"rat", 0, impl.Token{Kind: impl.TkName, At: 0, Text: "rat"}, 3, impl.Fault{}},
		{"rate{", 0, impl.Token{Kind: impl.TkKey, At: 0, Text: "rate"}, 4, impl.Fault{}},
		{"rateB", 0, impl.Token{Kind: impl.TkKey, At: 0, Text: "rate"}, 4, impl.Fault{}},
		{"twelveletter", 0, impl.Token{Kind: impl.TkName, At: 0, Text: "twelveletter"}, 12, impl.Fault{}},
		{"thirteenmarks", 0, impl.Token{}, 0, faultAt(impl.ErName, 0)},
		{"thirteenmarks", 1, impl.Token{Kind: impl.TkName, At: 1, Text: "hirteenmarks"}, 13, impl.Fault{}},
		{" a1", 0, impl.Token{}, 1, faultAt(impl.ErName, 1)},
		{"rate1", 0, impl.Token{}, 0, faultAt(impl.ErName, 0)},
		{"elevenmarks1", 0, impl.Token{}, 0, faultAt(impl.ErName, 0)},
		{"x0x1f", 0, impl.Token{}, 0, faultAt(impl.ErName, 0)},
		{"A", 0, impl.Token{}, 0, faultAt(impl.ErByte, 0)},
		{"a_b", 1, impl.Token{}, 1, faultAt(impl.ErByte, 1)},
		{"\u00e9", 0, impl.Token{}, 0, faultAt(impl.ErByte, 0)},
		{"\u00e9", 1, impl.Token{}, 1, faultAt(impl.ErByte, 1)},
		{"\u0661", 0, impl.Token{}, 0, faultAt(impl.ErByte, 0)},
		{"\u0161", 0, impl.Token{}, 0, faultAt(impl.ErByte, 0)},
		{"a\u0161", 0, impl.Token{Kind: impl.TkName, At: 0, Text: "a"}, 1, impl.Fault{}},
		{"0", 0, impl.Token{Kind: impl.TkNumber, At: 0, Text: "0"}, 1, impl.Fault{}},
		{"0x1f;", 0, impl.Token{Kind: impl.TkNumber, At: 0, Text: "0x1f", Value: 31}, 4, impl.Fault{}},
		{"0xffff", 0, impl.Token{Kind: impl.TkNumber, At: 0, Text: "0xffff", Value: 65535}, 6, impl.Fault{}},
		{"1000m", 0, impl.Token{Kind: impl.TkNumber, At: 0, Text: "1000m", Value: 1000000000}, 5, impl.Fault{}},
		{"1000000000", 0, impl.Token{Kind: impl.TkNumber, At: 0, Text: "1000000000", Value: 1000000000}, 10, impl.Fault{}},
		{"1000000001", 0, impl.Token{}, 0, faultAt(impl.ErNumber, 0)},
		{"1001m", 0, impl.Token{}, 0, faultAt(impl.ErNumber, 0)},
		{"0x10000", 0, impl.Token{}, 0, faultAt(impl.ErNumber, 0)},
		{"0x", 0, impl.Token{}, 0, faultAt(impl.ErNumber, 0)},
		{" 007", 0, impl.Token{}, 1, faultAt(impl.ErNumber, 1)},
		{"007", 1, impl.Token{}, 1, faultAt(impl.ErNumber, 1)},
		{"007", 2, impl.Token{Kind: impl.TkNumber, At: 2, Text: "7", Value: 7}, 3, impl.Fault{}},
		{"2kk", 0, impl.Token{}, 0, faultAt(impl.ErNumber, 0)},
		{"2rate", 0, impl.Token{}, 0, faultAt(impl.ErNumber, 0)},
		{"0k", 0, impl.Token{}, 0, faultAt(impl.ErNumber, 0)},
		{"2K", 0, impl.Token{Kind: impl.TkNumber, At: 0, Text: "2", Value: 2}, 1, impl.Fault{}},
		{"1.5", 0, impl.Token{Kind: impl.TkNumber, At: 0, Text: "1", Value: 1}, 1, impl.Fault{}},
		{"{}", 0, impl.Token{Kind: impl.TkSign, At: 0, Text: "{"}, 1, impl.Fault{}},
		{"{}", 1, impl.Token{Kind: impl.TkSign, At: 1, Text: "}"}, 2, impl.Fault{}},
		{";", 0, impl.Token{Kind: impl.TkSign, At: 0, Text: ";"}, 1, impl.Fault{}},
		{"/", 0, impl.Token{Kind: impl.TkSign, At: 0, Text: "/"}, 1, impl.Fault{}},
		{"==", 0, impl.Token{Kind: impl.TkSign, At: 0, Text: "="}, 1, impl.Fault{}},
		{"->>", 0, impl.Token{Kind: impl.TkSign, At: 0, Text: "->"}, 2, impl.Fault{}},
		{"-", 0, impl.Token{}, 0, faultAt(impl.ErByte, 0)},
		{"-->", 0, impl.Token{}, 0, faultAt(impl.ErByte, 0)},
		{"- >", 0, impl.Token{}, 0, faultAt(impl.ErByte, 0)},
		{">", 0, impl.Token{}, 0, faultAt(impl.ErByte, 0)},
		{"-5", 0, impl.Token{}, 0, faultAt(impl.ErByte, 0)},
		{strings.Repeat(" ", 3999) + "a", 0, impl.Token{Kind: impl.TkName, At: 3999, Text: "a"}, 4000, impl.Fault{}},
		{strings.Repeat(" ", 3999) + "-", 0, impl.Token{}, 3999, faultAt(impl.ErByte, 3999)},
		{strings.Repeat("a", 4000), 0, impl.Token{}, 0, faultAt(impl.ErName, 0)},
		{strings.Repeat("a", 4000), 3988, impl.Token{Kind: impl.TkName, At: 3988, Text: "aaaaaaaaaaaa"}, 4000, impl.Fault{}},
		{strings.Repeat("9", 4000), 0, impl.Token{}, 0, faultAt(impl.ErNumber, 0)},
	} {
		if token, end, fault, ok := impl.TokenAt(c.s, c.at); token != c.token || end != c.end || fault != c.fault || !ok {
			t.Errorf("TokenAt(%.40q, %d) = %v, %d, %v, %v", c.s, c.at, token, end, fault, ok)
		}
	}
}

func TestTokenAtRefusesWhatIsNotValid(t *testing.T) {
	for _, c := range []struct {
		s  string
		at int
	}{
		{"a b", -1}, {"a b", 4}, {"", 1}, {"", -1}, {"a b", 1<<63 - 1}, {"a b", -1 << 63},
		{strings.Repeat(" ", 4001), 0}, {strings.Repeat("-", 4001), 0}, {strings.Repeat("a ", 2001), 4000},
	} {
		if token, end, fault, ok := impl.TokenAt(c.s, c.at); token != (impl.Token{}) || end != 0 || fault != (impl.Fault{}) || ok {
			t.Errorf("TokenAt(%.40q, %d) = %v, %d, %v, %v", c.s, c.at, token, end, fault, ok)
		}
	}
}

func TestTokensOf(t *testing.T) {
	for _, c := range []struct {
		s     string
		texts []string
		fault impl.Fault
	}{
		{"a -> 2k # x", []string{"a", "->", "2k"}, impl.Fault{}},
		{"", nil, impl.Fault{}},
		{" \n", nil, impl.Fault{}},
		{"# a b", nil, impl.Fault{}},
		{"a#b", []string{"a"}, impl.Fault{}},
		{"a#b\nc", []string{"a", "c"}, impl.Fault{}},
		{"a#b\\\nc", []string{"a", "c"}, impl.Fault{}},
		{"a\\\nb", []string{"a", "b"}, impl.Fault{}},
		{"a;b{2}c->3/4=d", []string{"a", ";", "b", "{", "2", "}", "c", "->", "3", "/", "4", "=", "d"}, impl.Fault{}},
		{"a/0x1f", []string{"a", "/", "0x1f"}, impl.Fault{}},
		{"rate;", []string{"rate", ";"}, impl.Fault{}},
		{"a 01 -", nil, faultAt(impl.ErNumber, 2)}, // the first one of two
		{"a b1 01", nil, faultAt(impl.ErName, 2)},
		{"a - b1", nil, faultAt(impl.ErByte, 2)},
		{"a b\\", nil, faultAt(impl.ErByte, 3)},
		{"a b\\c", nil, faultAt(impl.ErByte, 3)},
		{"a # b\x00", nil, faultAt(impl.ErByte, 5)},
		{"aB", nil, faultAt(impl.ErByte, 1)},
		{"a 3K", nil, faultAt(impl.ErByte, 3)},
		{"a thirteenmarks", nil, faultAt(impl.ErName, 2)},
		{"\xffa", nil, faultAt(impl.ErByte, 0)},
	} {
		list, fault, ok := impl.TokensOf(c.s)
		var texts []string
		for _, x := range list {
			texts = append(texts, x.Text)
		}
		if !slices.Equal(texts, c.texts) || fault != c.fault || !ok {
			t.Errorf("TokensOf(%q) = %v, %v, %v", c.s, list, fault, ok)
		}
	}
	for _, s := range []string{strings.Repeat(" ", 4001), strings.Repeat("-", 4001), strings.Repeat(";", 4001)} {
		if list, fault, ok := impl.TokensOf(s); len(list) != 0 || fault != (impl.Fault{}) || ok {
			t.Errorf("TokensOf(%.40q of %d bytes) = %v, %v, %v", s, len(s), list, fault, ok)
		}
	}
}

func TestTokensOfManyTokens(t *testing.T) {
	for _, c := range []struct {
		s     string
		count int
		fault impl.Fault
	}{
		{strings.Repeat(";", 599), 599, impl.Fault{}},
		{strings.Repeat(";", 600), 600, impl.Fault{}},
		{strings.Repeat("a ", 600), 600, impl.Fault{}},
		{strings.Repeat("a ", 600) + " # a a", 600, impl.Fault{}},
		{strings.Repeat(";", 601), 0, faultAt(impl.ErCount, 600)},
		{strings.Repeat("a ", 600) + "# a\n b", 0, faultAt(impl.ErCount, 1205)},
		{strings.Repeat(";", 4000), 0, faultAt(impl.ErCount, 600)},
		{strings.Repeat(";", 600) + "-", 0, faultAt(impl.ErByte, 600)}, // no more than 600 tokens before it
		{strings.Repeat(";", 600) + " 01", 0, faultAt(impl.ErNumber, 601)},
		{strings.Repeat(";", 600) + "a1", 0, faultAt(impl.ErName, 600)},
		{strings.Repeat(";", 601) + "-", 0, faultAt(impl.ErCount, 600)},
		{strings.Repeat(";", 601) + "01", 0, faultAt(impl.ErCount, 600)},
		{strings.Repeat(";", 599) + "-;;;", 0, faultAt(impl.ErByte, 599)},
		{strings.Repeat(" ", 3400) + strings.Repeat(";", 600), 600, impl.Fault{}},
	} {
		if list, fault, ok := impl.TokensOf(c.s); len(list) != c.count || fault != c.fault || !ok {
			t.Errorf("TokensOf(%.10q of %d bytes) = %d tokens, %v, %v", c.s, len(c.s), len(list), fault, ok)
		}
		checkSpacedAsCounted(t, c.s, c.count > 0)
	}
}

// checkSpacedAsCounted checks that a text with too many tokens or a fault has no SpacedText.
func checkSpacedAsCounted(t *testing.T, s string, fine bool) {
	t.Helper()
	if spaced, ok := impl.SpacedText(s); ok != fine || !ok && spaced != "" {
		t.Errorf("SpacedText(%.10q of %d bytes) = %.10q, %v", s, len(s), spaced, ok)
	}
	if same, ok := impl.SameTokens(s, s); same != fine || ok != fine {
		t.Errorf("SameTokens(%.10q of %d bytes) of itself = %v, %v", s, len(s), same, ok)
	}
	if same, ok := impl.SameTokens("a", s); same || ok != fine {
		t.Errorf("SameTokens of a and %.10q of %d bytes = %v, %v", s, len(s), same, ok)
	}
}

// sampleTokens are tokens that a text can have.
func sampleTokens() []impl.Token {
	tokens := []impl.Token{
		{Kind: impl.TkName, At: 0, Text: "a"},
		{Kind: impl.TkName, At: 4000, Text: "k"},
		{Kind: impl.TkName, At: 17, Text: "twelveletter"},
		{Kind: impl.TkName, At: 3, Text: "rates"},
		{Kind: impl.TkName, At: 3, Text: "x"},
		{Kind: impl.TkName, At: 3, Text: "burs"},
		{Kind: impl.TkName, At: 3, Text: "t"},
		{Kind: impl.TkNumber, At: 0, Text: "0"},
		{Kind: impl.TkNumber, At: 4000, Text: "1", Value: 1},
		{Kind: impl.TkNumber, At: 1, Text: "2k", Value: 2000},
		{Kind: impl.TkNumber, At: 2, Text: "2000", Value: 2000},
		{Kind: impl.TkNumber, At: 2, Text: "0x7d0", Value: 2000},
		{Kind: impl.TkNumber, At: 2, Text: "0xffff", Value: 65535},
		{Kind: impl.TkNumber, At: 2, Text: "1000000000", Value: 1000000000},
		{Kind: impl.TkNumber, At: 2, Text: "1000m", Value: 1000000000},
	}
	for _, s := range keys {
		tokens = append(tokens, impl.Token{Kind: impl.TkKey, At: len(tokens), Text: s})
	}
	for _, s := range []string{"{", "}", ";", "/", "=", "->"} {
		tokens = append(tokens, impl.Token{Kind: impl.TkSign, At: len(tokens), Text: s})
	}
	return tokens
}

// noTokens are such as no text can have.
func noTokens() []impl.Token {
	tokens := []impl.Token{
		{},
		{Kind: impl.TkName},
		{Kind: impl.TkSign},
		{Kind: impl.TkName, Text: "thirteenmarks"},
		{Kind: impl.TkName, Text: strings.Repeat("a", 5000)},
		{Kind: impl.TkName, Text: "a1"},
		{Kind: impl.TkName, Text: "A"},
		{Kind: impl.TkName, Text: "aB"},
		{Kind: impl.TkName, Text: "a b"},
		{Kind: impl.TkName, Text: "a;"},
		{Kind: impl.TkName, Text: " a"},
		{Kind: impl.TkName, Text: "a "},
		{Kind: impl.TkName, Text: "a\n"},
		{Kind: impl.TkName, Text: "a#"},
		{Kind: impl.TkName, Text: "\xff"},
		{Kind: impl.TkName, Text: "\u0161"},
		{Kind: impl.TkName, Text: "1a"},
		{Kind: impl.TkKey, Text: "rate "},
		{Kind: impl.TkKey, Text: "ratesandmore"},
		{Kind: impl.TkNumber, Text: "01", Value: 1},
		{Kind: impl.TkNumber, Text: "0x", Value: 0},
		{Kind: impl.TkNumber, Text: "0x10000", Value: 65536},
		{Kind: impl.TkNumber, Text: "1000000001", Value: 1000000001},
		{Kind: impl.TkNumber, Text: "1001m", Value: 1001000000},
		{Kind: impl.TkNumber, Text: "2kk", Value: 2000000},
		{Kind: impl.TkNumber, Text: "2 ", Value: 2},
		{Kind: impl.TkNumber, Text: " 2", Value: 2},
		{Kind: impl.TkNumber, Text: "2;", Value: 2},
		{Kind: impl.TkNumber, Text: "-2", Value: -2},
		{Kind: impl.TkNumber, Text: "a"},
		{Kind: impl.TkSign, Text: "-"},
		{Kind: impl.TkSign, Text: ">"},
		{Kind: impl.TkSign, Text: "->>"},
		{Kind: impl.TkSign, Text: "{}"},
		{Kind: impl.TkSign, Text: ";;"},
		{Kind: impl.TkSign, Text: "; "},
		{Kind: impl.TkSign, Text: "#"},
		{Kind: impl.TkSign, Text: "\\\n"},
		{Kind: impl.TkSign, Text: ":"},
	}
	for _, x := range sampleTokens() {
		for kind := -1; kind <= 6; kind++ {
			if kind != x.Kind {
				tokens = append(tokens, impl.Token{Kind: kind, At: x.At, Text: x.Text, Value: x.Value})
			}
		}
		for _, at := range []int{-1, 4001, -1 << 63, 1<<63 - 1} {
			tokens = append(tokens, impl.Token{Kind: x.Kind, At: at, Text: x.Text, Value: x.Value})
		}
		for _, value := range []int{x.Value + 1, x.Value - 1, -1 << 63, 1<<63 - 1} {
			tokens = append(tokens, impl.Token{Kind: x.Kind, At: x.At, Text: x.Text, Value: value})
		}
	}
	return tokens
}

func TestIsToken(t *testing.T) {
	for _, x := range sampleTokens() {
		for _, at := range []int{0, 1, 3999, 4000} {
			x.At = at
			if !impl.IsToken(x) {
				t.Errorf("%v is no token", x)
			}
		}
	}
	for _, x := range noTokens() {
		if impl.IsToken(x) {
			t.Errorf("%v is a token", x)
		}
	}
}

func TestJoinTokens(t *testing.T) {
	name := impl.Token{Kind: impl.TkName, At: 9, Text: "abc"}
	sign := impl.Token{Kind: impl.TkSign, At: 0, Text: ";"}
	for _, c := range []struct {
		list []impl.Token
		s    string
		ok   bool
	}{
		{nil, "", true},
		{[]impl.Token{}, "", true},
		{[]impl.Token{name}, "abc", true},
		{[]impl.Token{name, sign, name}, "abc ; abc", true}, // in the order of the list, whatever their places are
		{withSpare([]impl.Token{sign, sign}, name), "; ;", true},
		{slices.Repeat([]impl.Token{sign}, 600), strings.Repeat("; ", 599) + ";", true},
		{slices.Repeat([]impl.Token{sign}, 601), "", false},
		{wordsOf(307, "ninemarks"), strings.Repeat("twelveletter ", 307) + "ninemarks", true}, // 4000 bytes
		{wordsOf(307, "tenletters"), "", false},
		{wordsOf(599, "a"), "", false},
	} {
		if s, ok := impl.JoinTokens(c.list); s != c.s || ok != c.ok {
			t.Errorf("JoinTokens(%.80v of %d) = %.80q, %v", c.list, len(c.list), s, ok)
		}
	}
}

// wordsOf returns some tokens of 12 letters, and another name.
func wordsOf(count int, last string) []impl.Token {
	list := slices.Repeat([]impl.Token{{Kind: impl.TkName, At: 9, Text: "twelveletter"}}, count)
	return append(list, impl.Token{Kind: impl.TkName, At: 0, Text: last})
}

func TestListsWithWhatIsNoTokenAreRefused(t *testing.T) {
	for _, x := range noTokens() {
		for _, list := range [][]impl.Token{{x}, append(sampleTokens(), x), append([]impl.Token{x}, sampleTokens()...)} {
			if s, ok := impl.JoinTokens(list); s != "" || ok {
				t.Errorf("JoinTokens of a list with %v = %q, %v", x, s, ok)
			}
			if counts, ok := impl.CountTokens(list); len(counts) != 0 || ok {
				t.Errorf("CountTokens of a list with %v = %v, %v", x, counts, ok)
			}
		}
	}
}

func TestCountTokens(t *testing.T) {
	samples := sampleTokens()
	for _, c := range []struct {
		list   []impl.Token
		counts []int
		ok     bool
	}{
		{nil, []int{0, 0, 0, 0}, true},
		{[]impl.Token{}, []int{0, 0, 0, 0}, true},
		{samples[:1], []int{0, 1, 0, 0}, true},
		{samples[7:9], []int{0, 0, 2, 0}, true},
		{samples, []int{14, 7, 8, 6}, true},
		{withSpare(samples[8:16], samples[0]), []int{1, 0, 7, 0}, true},
		{slices.Repeat(samples[15:16], 600), []int{600, 0, 0, 0}, true},
		{slices.Repeat(samples[34:35], 600), []int{0, 0, 0, 600}, true},
		{slices.Repeat(samples[:1], 601), nil, false},
		{wordsOf(599, "a"), []int{0, 600, 0, 0}, true}, // they have no joined text
	} {
		if counts, ok := impl.CountTokens(c.list); !slices.Equal(counts, c.counts) || ok != c.ok {
			t.Errorf("CountTokens(%.80v of %d) = %v, %v", c.list, len(c.list), counts, ok)
		}
	}
}

func TestSpacedText(t *testing.T) {
	for _, c := range []struct {
		s, spaced string
		ok        bool
	}{
		{"a;#", "a ;", true},
		{"a;# b", "a ;", true},
		{"", "", true},
		{" \\\n#", "", true},
		{"a -> 2k # x", "a -> 2k", true},
		{"{a\t\tb\n}0x1f/2000", "{ a b } 0x1f / 2000", true}, // texts of numbers stay as they are
		{"a1", "", false},
		{"a 01", "", false},
		{"a -", "", false},
		{"a \\", "", false},
		{strings.Repeat("a", 4001), "", false},
		{strings.Repeat("twelveletter ", 307) + "ninemarks", strings.Repeat("twelveletter ", 307) + "ninemarks", true},
		{strings.Repeat(" ", 3999) + "a", "a", true},
		{strings.Repeat("twelveletter;", 266) + "tenletters", strings.Repeat("twelveletter ; ", 266) + "tenletters", true},
		{strings.Repeat("twelveletter;", 266) + "elevenmarks", "", false},
	} {
		if s, ok := impl.SpacedText(c.s); s != c.spaced || ok != c.ok {
			t.Errorf("SpacedText(%.40q of %d bytes) = %.40q of %d bytes, %v", c.s, len(c.s), s, len(s), ok)
		}
	}
}

func TestSameTokens(t *testing.T) {
	for _, c := range []struct {
		a, b     string
		same, ok bool
	}{
		{"a;", "a ;", true, true},
		{"", "", true, true},
		{"", " # x", true, true},
		{"a#b", "\\\na", true, true},
		{"2k", "2k", true, true},
		{"2k", "2000", false, true}, // the same value, but another text
		{"2000", "0x7d0", false, true},
		{"a", "b", false, true},
		{"a", "", false, true},
		{"", "a", false, true},
		{"a b", "a", false, true},
		{"a", "a b", false, true},
		{"a b", "b a", false, true},
		{"a b", "ab", false, true},
		{"->", "/", false, true},
		{"rate", "ceil", false, true},
		{"a1", "a1", false, false},
		{"a", "01", false, false},
		{"01", "a", false, false},
		{"-", "-", false, false},
		{"a\\", "a", false, false},
		{"a", "a\\", false, false},
		{"a", strings.Repeat(" ", 4001), false, false},
		{strings.Repeat(" ", 4001), "a", false, false},
		{"a", "a" + strings.Repeat(" ", 3999), true, true},
		{strings.Repeat(";", 600), strings.Repeat("; ", 600), true, true},
		{strings.Repeat(";", 601), strings.Repeat(";", 601), false, false},
		{strings.Repeat("twelveletter ", 307) + "tenletters", strings.Repeat("twelveletter;", 307), false, false}, // too many bytes, and too many tokens
		{strings.Repeat("twelveletter;", 300), strings.Repeat("twelveletter;", 300), true, true},                  // they have no joined text
	} {
		if same, ok := impl.SameTokens(c.a, c.b); same != c.same || ok != c.ok {
			t.Errorf("SameTokens(%.40q, %.40q) = %v, %v", c.a, c.b, same, ok)
		}
	}
}

func TestCanTouch(t *testing.T) {
	samples := append(sampleTokens(), impl.Token{Kind: impl.TkNumber, At: 5, Text: "10", Value: 10})
	for _, a := range samples {
		for _, b := range samples {
			list, fault := slowTokensOf(a.Text + b.Text)
			want := fault.Kind == 0 && slices.Equal(tokenWords(list), tokenWords([]impl.Token{a, b}))
			// A sign ends every token, and all others go on to the next sign.
			if want != (a.Kind == impl.TkSign || b.Kind == impl.TkSign) {
				t.Fatal(a, b, list, fault)
			}
			if can, ok := impl.CanTouch(a, b); can != want || !ok {
				t.Errorf("CanTouch(%v, %v) = %v, %v", a, b, can, ok)
			}
		}
	}
	for _, a := range samples {
		for _, b := range noTokens() {
			if can, ok := impl.CanTouch(a, b); can || ok {
				t.Errorf("CanTouch(%v, %v) = %v, %v", a, b, can, ok)
			}
			if can, ok := impl.CanTouch(b, a); can || ok {
				t.Errorf("CanTouch(%v, %v) = %v, %v", b, a, can, ok)
			}
		}
	}
}

func TestPromise3TokensThatCanTouchNeedNoBlanks(t *testing.T) {
	samples := sampleTokens()
	for seed := range uint32(500) {
		var list []impl.Token
		var text strings.Builder
		for _, b := range noise(int(seed%50), seed) {
			x := samples[int(b)%len(samples)]
			if len(list) > 0 {
				if can, ok := impl.CanTouch(list[len(list)-1], x); !ok {
					t.Fatal(list[len(list)-1], x)
				} else if !can {
					text.WriteString(" ")
				}
			}
			list = append(list, x)
			text.WriteString(x.Text)
		}
		joined, okJoined := impl.JoinTokens(list)
		if same, ok := impl.SameTokens(text.String(), joined); !same || !ok || !okJoined {
			t.Fatalf("SameTokens(%q, %q) = %v, %v", text.String(), joined, same, ok)
		}
	}
}
