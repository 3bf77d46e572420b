package text

import (
	"regexp"
	"slices"
	"strings"
	"testing"

	"intarsia/api"
)

// tokenBytes is written out, so that one too many or too few is found.
const tokenBytes = "abcdefghijklmnopqrstuvwxyzABCDEFGHIJKLMNOPQRSTUVWXYZ0123456789!#$%&'*+-.^_|~\x60"

// quotedForm says the document's word QUOTED anew, as a pattern of the library.
var quotedForm = regexp.MustCompile(`(?s)\A"([^"\\\x00-\x08\x0a-\x1f\x7f]|\\[^\x00-\x08\x0a-\x1f\x7f])*"\z`)

// long is more than any header has room for.
const long = 100000

func allBytes() string {
	var b strings.Builder
	for i := range 256 {
		b.WriteByte(byte(i))
	}
	return b.String()
}

func isControl(c int) bool { return c < 32 && c != 9 || c == 127 }

// texts are all those of at most so many bytes out of some.
func texts(bytes string, most int) []string {
	all := []string{""}
	from := 0
	for range most {
		to := len(all)
		for _, s := range all[from:to] {
			for i := range len(bytes) {
				all = append(all, s+bytes[i:i+1])
			}
		}
		from = to
	}
	return all
}

func wantSplit(t *testing.T, s string, by byte, parts ...string) {
	t.Helper()
	got, bad := Split(s, by)
	if bad != api.OK || !slices.Equal(got, parts) {
		t.Errorf("Split(%.60q, %q) = %.60q, %d; want %.60q, 0", s, by, got, bad, parts)
	}
}

func wantNoSplit(t *testing.T, s string, by byte) {
	t.Helper()
	if got, bad := Split(s, by); bad != api.ErrText || len(got) != 0 {
		t.Errorf("Split(%.60q, %q) = %.60q, %d; want none, 11", s, by, got, bad)
	}
}

func wantQuote(t *testing.T, s, quoted string, bad api.Errno) {
	t.Helper()
	if got, gotBad := Quote(s); got != quoted || gotBad != bad {
		t.Errorf("Quote(%.60q) = %.60q, %d; want %.60q, %d", s, got, gotBad, quoted, bad)
	}
}

func wantUnquote(t *testing.T, s, plain string, bad api.Errno) {
	t.Helper()
	if got, gotBad := Unquote(s); got != plain || gotBad != bad {
		t.Errorf("Unquote(%.60q) = %.60q, %d; want %.60q, %d", s, got, gotBad, plain, bad)
	}
}

// P3.1: Lower changes A to Z alone, not letters of other alphabets, nor bytes that are no text at all.
func TestLower(t *testing.T) {
	for _, c := range []struct{ s, want string }{
		{"", ""},
		{"a", "a"},
		{"Z", "z"},
		{"Ab-Z", "ab-z"},
		{"Content-LENGTH: 12", "content-length: 12"},
		{"ABCDEFGHIJKLMNOPQRSTUVWXYZ", "abcdefghijklmnopqrstuvwxyz"},
		{"@[`{", "@[`{"},
		{"ÄÖ İ \u212a", "ÄÖ İ \u212a"},
		{"\xff\xc0A\xc3", "\xff\xc0a\xc3"},
		{" A \t", " a \t"},
	} {
		if got := Lower(c.s); got != c.want {
			t.Errorf("Lower(%q) = %q; want %q", c.s, got, c.want)
		}
	}
	if got, want := Lower(strings.Repeat("Aa", long)), strings.Repeat("aa", long); got != want {
		t.Error("Lower of a long text")
	}
}

// P3.1: Lower, of each byte alone and of all of them at once.
func TestLowerOfEachByte(t *testing.T) {
	var want strings.Builder
	for i := range 256 {
		c := byte(i)
		if i >= 65 && i <= 90 {
			c = byte(i + 32)
		}
		want.WriteByte(c)
		if got := Lower(string([]byte{byte(i)})); got != string([]byte{c}) {
			t.Errorf("Lower of byte %d = %q", i, got)
		}
	}
	if got := Lower(allBytes()); got != want.String() {
		t.Errorf("Lower of all bytes = %q", got)
	}
}

// P3.1: Same.
func TestSame(t *testing.T) {
	for _, c := range []struct {
		a, b string
		want bool
	}{
		{"", "", true},
		{"", "a", false},
		{"a", "", false},
		{"HOST", "host", true},
		{"hOsT", "HoSt", true},
		{"host", "hosts", false},
		{"host", "hast", false},
		{"host ", "host", false},
		{"@", "`", false},
		{"[", "{", false},
		{"\x00", " ", false},
		{"k", "\u212a", false},
		{"s", "\u017f", false},
		{"Ä", "ä", false},
		{"\xff", "\xfe", false},
		{"\xffA", "\xffa", true},
	} {
		if got := Same(c.a, c.b); got != c.want {
			t.Errorf("Same(%q, %q) = %t; want %t", c.a, c.b, got, c.want)
		}
	}
}

// P3.1: Same, of each two bytes: they are the same, or a letter great and small.
func TestSameOfEachTwoBytes(t *testing.T) {
	small := func(i int) int {
		if i >= 65 && i <= 90 {
			return i + 32
		}
		return i
	}
	for i := range 256 {
		for j := range 256 {
			got := Same(string([]byte{byte(i)}), string([]byte{byte(j)}))
			if got != (small(i) == small(j)) {
				t.Fatalf("Same of bytes %d and %d = %t", i, j, got)
			}
		}
	}
}

// P3.1: Trim.
func TestTrim(t *testing.T) {
	for _, c := range []struct{ s, want string }{
		{"", ""},
		{" ", ""},
		{"\t", ""},
		{" \t\t ", ""},
		{"a", "a"},
		{" a", "a"},
		{"a ", "a"},
		{"\ta", "a"},
		{"a\t", "a"},
		{" \ta ", "a"},
		{"\t \t a b\tc \t ", "a b\tc"},
		{"\r\n a \r\n", "\r\n a \r\n"},
		{" \na\v ", "\na\v"},
		{"\u00a0a\u00a0", "\u00a0a\u00a0"},
		{" \x00 ", "\x00"},
		{" \xa0\xff ", "\xa0\xff"},
		{` " a " `, `" a "`},
	} {
		if got := Trim(c.s); got != c.want {
			t.Errorf("Trim(%q) = %q; want %q", c.s, got, c.want)
		}
	}
	blank := strings.Repeat(" \t", long)
	if got := Trim(blank + "a" + blank); got != "a" {
		t.Errorf("Trim of a long text has %d bytes", len(got))
	}
}

// P3.1: Trim takes no byte off but 32 and 9, at neither end.
func TestTrimOfEachByte(t *testing.T) {
	for i := range 256 {
		c := string([]byte{byte(i)})
		want := "a"
		if i != 32 && i != 9 {
			want = c + "a" + c
		}
		if got := Trim(c + "a" + c); got != want {
			t.Errorf("Trim with byte %d at both ends = %q; want %q", i, got, want)
		}
	}
}

// P3.1: Token.
func TestToken(t *testing.T) {
	for _, c := range []struct {
		s    string
		want bool
	}{
		{"", false},
		{"x-y", true},
		{"a b", false},
		{" a", false},
		{"a ", false},
		{"a\t", false},
		{"a,b", false},
		{`"a"`, false},
		{"Content-Length", true},
		{"0", true},
		{tokenBytes, true},
		{tokenBytes + ":", false},
		{"é", false},
		{"a\x00", false},
		{strings.Repeat("a", long), true},
		{strings.Repeat("a", long) + "/", false},
	} {
		if got := Token(c.s); got != c.want {
			t.Errorf("Token(%.60q) = %t; want %t", c.s, got, c.want)
		}
	}
}

// P3.1: each byte as a token's: alone, first, last, and in the middle.
func TestTokenOfEachByte(t *testing.T) {
	for i := range 256 {
		c := string([]byte{byte(i)})
		want := strings.IndexByte(tokenBytes, byte(i)) >= 0
		for _, s := range []string{c, c + "a", "a" + c, "a" + c + "a"} {
			if got := Token(s); got != want {
				t.Errorf("Token(%q) = %t; want %t", s, got, want)
			}
		}
	}
}

// P3.2: Split.
func TestSplit(t *testing.T) {
	wantSplit(t, `a, "b, c" ,d`, ',', "a", `"b, c"`, "d")
	wantSplit(t, "", ',', "")
	wantSplit(t, " \t ", ',', "")
	wantSplit(t, "a", ',', "a")
	wantSplit(t, " a b\t", ',', "a b")
	wantSplit(t, ",", ',', "", "")
	wantSplit(t, ",,", ',', "", "", "")
	wantSplit(t, ",a", ',', "", "a")
	wantSplit(t, "a,", ',', "a", "")
	wantSplit(t, " a\t,\tb , \t,c", ',', "a", "b", "", "c")
	wantSplit(t, "a;b,c", ';', "a", "b,c")
	wantSplit(t, "a b\tc", ' ', "a", "b\tc")
	wantSplit(t, "a \t b", '\t', "a", "b")
	wantSplit(t, "  ", ' ', "", "", "")
	wantSplit(t, "a\x00b\xffc", '\x00', "a", "b\xffc")
	wantSplit(t, "a\x00b\xffc", '\xff', "a\x00b", "c")
	wantSplit(t, "aAa", 'a', "", "A", "")
}

// P3.2: what stands within quotes parts nothing, and stays as it is.
func TestSplitWithQuotes(t *testing.T) {
	wantSplit(t, `","`, ',', `","`)
	wantSplit(t, `"",""`, ',', `""`, `""`)
	wantSplit(t, `a","b,c`, ',', `a","b`, "c")
	wantSplit(t, `" a , b "`, ',', `" a , b "`)
	wantSplit(t, `",""," ,b`, ',', `","","`, "b")
	wantSplit(t, `",",","`, ',', `","`, `","`)
	wantSplit(t, "\"\x00\n,\x7f\",\x01", ',', "\"\x00\n,\x7f\"", "\x01")
	wantSplit(t, `a="x;y";b=z`, ';', `a="x;y"`, "b=z")
	wantSplit(t, `"a b" c`, ' ', `"a b"`, "c")
}

// P3.2: a \ within quotes takes the next byte with it, another \ too; outside of quotes it takes nothing.
func TestSplitWithBackslashes(t *testing.T) {
	wantSplit(t, `"a\",b",c`, ',', `"a\",b"`, "c")
	wantSplit(t, `"a\\",b`, ',', `"a\\"`, "b")
	wantSplit(t, `"a\\\",b",c`, ',', `"a\\\",b"`, "c")
	wantSplit(t, `"\\\\",b`, ',', `"\\\\"`, "b")
	wantSplit(t, `"\,",b`, ',', `"\,"`, "b")
	wantSplit(t, `"\a",b`, ',', `"\a"`, "b")
	wantSplit(t, `\,b`, ',', `\`, "b")
	wantSplit(t, `\",",b`, ',', `\","`, "b")
	wantSplit(t, `\\,b\`, ',', `\\`, `b\`)
	wantSplit(t, `"a"\",",c`, ',', `"a"\","`, "c")
}

// P3.2: a text that ends within quotes, also behind a \ there.
func TestSplitOfOpenQuotes(t *testing.T) {
	for _, s := range []string{
		`"`, `a, "b`, `"a,b`, `a"`, `"a"b"`, `"\"`, `"\`, `"a\`, `"a\\\"`, `"a\\\`, `a,b,"c\",d`, `\"`, `"","","`,
	} {
		wantNoSplit(t, s, ',')
	}
	wantNoSplit(t, `"`+strings.Repeat(`\"`, long), ',')
}

// P3.2: a by that would part quotes.
func TestSplitByQuotes(t *testing.T) {
	for _, by := range []byte{'"', '\\'} {
		for _, s := range []string{"", "a", "a,b", `"a"`, `a"b`, `\`, `a\b`, `"a`} {
			wantNoSplit(t, s, by)
		}
	}
	for i := range 256 {
		if by := byte(i); by != '"' && by != '\\' {
			wantSplit(t, "", by, "")
			wantSplit(t, `"`+string([]byte{by})+`"`, by, `"`+string([]byte{by})+`"`)
		}
	}
}

// P3.2: there are as many parts as bytes by outside of quotes, and one, in a text of many.
func TestSplitOfMany(t *testing.T) {
	got, bad := Split(strings.Repeat(` a ,",",`, long), ',')
	if bad != api.OK || len(got) != 2*long+1 {
		t.Fatalf("Split of a long text: %d parts, %d", len(got), bad)
	}
	for i, part := range got {
		want := [...]string{"a", `","`}[i%2]
		if i == 2*long {
			want = ""
		}
		if part != want {
			t.Fatalf("Split of a long text: part %d is %q", i, part)
		}
	}
}

// splitBySteps does Split anew, byte by byte with what each one is: outside of quotes, within them, or taken by a \ there.
func splitBySteps(s string, by byte) ([]string, bool) {
	parts := []string{""}
	state := "out"
	for i := range len(s) {
		c := s[i]
		switch {
		case state == "out" && c == by:
			parts = append(parts, "")
			continue
		case state == "out" && c == '"':
			state = "in"
		case state == "in" && c == '"':
			state = "out"
		case state == "in" && c == '\\':
			state = "taken"
		case state == "taken":
			state = "in"
		}
		parts[len(parts)-1] += s[i : i+1]
	}
	for i := range parts {
		parts[i] = strings.Trim(parts[i], " \t")
	}
	return parts, state == "out"
}

// P3.2: all short texts of the bytes that matter.
func TestSplitOfAllShortTexts(t *testing.T) {
	for _, s := range texts("\"\\, a", 7) {
		if parts, ok := splitBySteps(s, ','); ok {
			wantSplit(t, s, ',', parts...)
		} else {
			wantNoSplit(t, s, ',')
		}
	}
}

// P3.3: Quote.
func TestQuote(t *testing.T) {
	wantQuote(t, "", `""`, api.OK)
	wantQuote(t, "a", `"a"`, api.OK)
	wantQuote(t, `x"y`, `"x\"y"`, api.OK)
	wantQuote(t, `x\y`, `"x\\y"`, api.OK)
	wantQuote(t, `"`, `"\""`, api.OK)
	wantQuote(t, `\`, `"\\"`, api.OK)
	wantQuote(t, `\"`, `"\\\""`, api.OK)
	wantQuote(t, `"a"`, `"\"a\""`, api.OK)
	wantQuote(t, " a,b\t", "\" a,b\t\"", api.OK)
	wantQuote(t, "é\x80\xff", "\"é\x80\xff\"", api.OK)
	wantQuote(t, "a\n", "", api.ErrText)
	wantQuote(t, "\x00", "", api.ErrText)
	wantQuote(t, "\"\\\x7f", "", api.ErrText)
	wantQuote(t, strings.Repeat(`"`, long), `"`+strings.Repeat(`\"`, long)+`"`, api.OK)
	wantQuote(t, strings.Repeat("a", long)+"\x1f", "", api.ErrText)
}

// P3.3: Unquote.
func TestUnquote(t *testing.T) {
	wantUnquote(t, `""`, "", api.OK)
	wantUnquote(t, `"a"`, "a", api.OK)
	wantUnquote(t, `"x\"y"`, `x"y`, api.OK)
	wantUnquote(t, `"x\\y"`, `x\y`, api.OK)
	wantUnquote(t, `"\\"`, `\`, api.OK)
	wantUnquote(t, `"\""`, `"`, api.OK)
	wantUnquote(t, `"\\\""`, `\"`, api.OK)
	wantUnquote(t, `"\a\b"`, "ab", api.OK)
	wantUnquote(t, `"\\a"`, `\a`, api.OK)
	wantUnquote(t, "\"\\\t\"", "\t", api.OK)
	wantUnquote(t, "\" a,\tb \"", " a,\tb ", api.OK)
	wantUnquote(t, "\"é\x80\\\xff\"", "é\x80\xff", api.OK)
	wantUnquote(t, `"`+strings.Repeat(`\"`, long)+`"`, strings.Repeat(`"`, long), api.OK)
}

// P3.3: texts that are not quoted.
func TestUnquoteOfOthers(t *testing.T) {
	for _, s := range []string{
		"", "a", "x", "'a'", `"`, `"a`, `a"`, `a"b"`, `"a"b`, ` "a"`, `"a" `, `"a"b"`, `"a""b"`, `"""`, `""""`,
		`"\`, `"\"`, `"a\"`, `"a\\\"`, `"a\`, `\"a"`, `\""`, `\`, `"a"\`,
		"\"\n\"", "\"a\x00\"", "\"\\\x00\"", "\"\\\r\"", "\"\\\x7f\"", "\"\x7f\"", "\"\\\\\x1f\"", "\"a\"\n", "\n\"a\"",
	} {
		wantUnquote(t, s, "", api.ErrText)
	}
	wantUnquote(t, `"`+strings.Repeat(`\\`, long), "", api.ErrText)
}

// P3.3: each byte, within quotes alone and behind a \.
func TestQuotesOfEachByte(t *testing.T) {
	for i := range 256 {
		c := string([]byte{byte(i)})
		switch {
		case isControl(i):
			wantQuote(t, "a"+c+"b", "", api.ErrText)
			wantUnquote(t, `"a`+c+`b"`, "", api.ErrText)
			wantUnquote(t, `"a\`+c+`b"`, "", api.ErrText)
		case c == `"` || c == `\`:
			wantQuote(t, "a"+c+"b", `"a\`+c+`b"`, api.OK)
			wantUnquote(t, `"a\`+c+`b"`, "a"+c+"b", api.OK)
		default:
			wantQuote(t, "a"+c+"b", `"a`+c+`b"`, api.OK)
			wantUnquote(t, `"a`+c+`b"`, "a"+c+"b", api.OK)
			wantUnquote(t, `"a\`+c+`b"`, "a"+c+"b", api.OK)
		}
	}
}

// P3.3: all short texts of the bytes that matter, held against the document's word QUOTED.
func TestUnquoteOfAllShortTexts(t *testing.T) {
	taken := regexp.MustCompile(`(?s)\\(.)`)
	for _, s := range texts("\"\\a\n\t", 7) {
		if quotedForm.MatchString(s) {
			wantUnquote(t, s, taken.ReplaceAllString(s[1:len(s)-1], "$1"), api.OK)
		} else {
			wantUnquote(t, s, "", api.ErrText)
		}
	}
}

// P3.4: what is quoted is unquoted again, and is one part, whatever stands in it.
func TestQuotedIsUnquotedAgain(t *testing.T) {
	all := texts("\"\\a, \xff", 6)
	every := strings.Map(func(c rune) rune {
		if isControl(int(c)) {
			return -1
		}
		return c
	}, allBytes()[:128]) + allBytes()[128:]
	for _, s := range append(all, every, every+every) {
		quoted, bad := Quote(s)
		if bad != api.OK || !quotedForm.MatchString(quoted) {
			t.Fatalf("Quote(%q) = %q, %d", s, quoted, bad)
		}
		wantUnquote(t, quoted, s, api.OK)
		wantSplit(t, quoted, ',', quoted)
	}
}

// P3.4: what has no by and no quotes in it is one part.
func TestOnePart(t *testing.T) {
	for _, s := range texts("\\a \t\x00\xff", 5) {
		wantSplit(t, s, ',', strings.Trim(s, " \t"))
	}
	for i := range 256 {
		if by := byte(i); by != '"' && by != '\\' {
			rest := strings.Replace(strings.Replace(allBytes(), `"`, "", 1), string([]byte{by}), "", 1)
			wantSplit(t, rest, by, rest)
		}
	}
}
