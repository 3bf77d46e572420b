package pairs

import (
	"slices"
	"strconv"
	"strings"
	"testing"

	"intarsia/api"
)

// row makes pairs of names, each with its value behind it.
func row(texts ...string) []api.Pair {
	var l []api.Pair
	for i := 0; i < len(texts); i += 2 {
		l = append(l, api.Pair{Name: texts[i], Value: texts[i+1]})
	}
	return l
}

func wantPairs(t *testing.T, call string, read func(s string) []api.Pair, s string, want ...string) {
	t.Helper()
	if got := read(s); !slices.Equal(got, row(want...)) {
		t.Errorf("%s(%.200q) = %.200q; want %.200q", call, s, got, row(want...))
	}
}

func wantQuery(t *testing.T, s string, want ...string) {
	t.Helper()
	wantPairs(t, "Query", Query, s, want...)
}

func wantCookies(t *testing.T, s string, want ...string) {
	t.Helper()
	wantPairs(t, "Cookies", Cookies, s, want...)
}

func wantLanguages(t *testing.T, s string, want ...string) {
	t.Helper()
	if got := Languages(s); !slices.Equal(got, want) {
		t.Errorf("Languages(%.200q) = %.200q; want %.200q", s, got, want)
	}
}

func wantAgent(t *testing.T, s, browser, version, system string) {
	t.Helper()
	if a, b, c := Agent(s); a != browser || b != version || c != system {
		t.Errorf("Agent(%.200q) = %q, %.200q, %q; want %q, %.200q, %q", s, a, b, c, browser, version, system)
	}
}

func wantFind(t *testing.T, l []api.Pair, name, value string, is bool) {
	t.Helper()
	if got, gotIs := Find(l, name); got != value || gotIs != is {
		t.Errorf("Find(%.200q, %q) = %.200q, %t; want %.200q, %t", l, name, got, gotIs, value, is)
	}
}

// joinedTexts are all texts of at most so many of the parts.
func joinedTexts(parts []string, most int) []string {
	all := []string{""}
	from := 0
	for range most {
		to := len(all)
		for _, s := range all[from:to] {
			for _, part := range parts {
				all = append(all, s+part)
			}
		}
		from = to
	}
	return all
}

// P11.1: parts between &, in order, but empty ones.
func TestQueryParts(t *testing.T) {
	wantQuery(t, "a=1&b=x%2By+z", "a", "1", "b", "x+y z")
	wantQuery(t, "")
	wantQuery(t, "&")
	wantQuery(t, "&&&")
	wantQuery(t, "&a=1", "a", "1")
	wantQuery(t, "&&a=1", "a", "1")
	wantQuery(t, "a=1&&b=2", "a", "1", "b", "2")
	wantQuery(t, "a=1&&&b=2", "a", "1", "b", "2")
	wantQuery(t, "a=1&", "a", "1")
	wantQuery(t, "a=1&&", "a", "1")
	wantQuery(t, "&a=1&&b=2&", "a", "1", "b", "2")
	wantQuery(t, "b=2&a=1&c=3", "b", "2", "a", "1", "c", "3")
	wantQuery(t, "a=1&a=2&A=3&a=1", "a", "1", "a", "2", "A", "3", "a", "1")
	wantQuery(t, "a=1;b=2", "a", "1;b=2")
	wantQuery(t, "a=1,b=2", "a", "1,b=2")
	wantQuery(t, "a=1&amp;b=2", "a", "1", "amp;b", "2")
}

// P11.1: what is ahead of the first = is the Name, what is behind it the Value; a part without one is all Name.
func TestQueryNamesAndValues(t *testing.T) {
	wantQuery(t, "a", "a", "")
	wantQuery(t, "a&b=1&c", "a", "", "b", "1", "c", "")
	wantQuery(t, "a=", "a", "")
	wantQuery(t, "=a", "", "a")
	wantQuery(t, "=", "", "")
	wantQuery(t, "=&=", "", "", "", "")
	wantQuery(t, "a&=&b", "a", "", "", "", "b", "")
	wantQuery(t, "==", "", "=")
	wantQuery(t, "a=b=c", "a", "b=c")
	wantQuery(t, "a==b==", "a", "=b==")
	wantQuery(t, "=a=b", "", "a=b")
	wantQuery(t, " a = b & ", " a ", " b ", " ", "")
	wantQuery(t, "\ta\t=\t1\t", "\ta\t", "\t1\t")
	wantQuery(t, `a="1&2"`, "a", `"1`, `2"`, "")
	wantQuery(t, `"a=1"`, `"a`, `1"`)
	wantQuery(t, "A=B", "A", "B")
}

// P11.1: + is a blank, in a Name and in a Value.
func TestQueryBlanks(t *testing.T) {
	wantQuery(t, "a+b=c+d", "a b", "c d")
	wantQuery(t, "+=+", " ", " ")
	wantQuery(t, "+", " ", "")
	wantQuery(t, "++a++=++b++", "  a  ", "  b  ")
	wantQuery(t, "a+b", "a b", "")
	wantQuery(t, "%20+%20=+", "   ", " ")
}

// P11.1: % with two digits behind it is the byte of that number, in a Name and in a Value; it is read once.
func TestQueryNumbers(t *testing.T) {
	wantQuery(t, "%61=%41", "a", "A")
	wantQuery(t, "x%61y=x%41y", "xay", "xAy")
	wantQuery(t, "%6a%6A=%aF%Af", "jj", "\xaf\xaf")
	wantQuery(t, "a=%00%ff%FF%00", "a", "\x00\xff\xff\x00")
	wantQuery(t, "%00=%FF", "\x00", "\xff")
	wantQuery(t, "%00", "\x00", "")
	wantQuery(t, "a=%26%3d%3D%2b%2B%25", "a", "&==++%")
	wantQuery(t, "%26%3D%2B%25=1", "&=+%", "1")
	wantQuery(t, "a%3D1", "a=1", "")
	wantQuery(t, "a%3D1=2", "a=1", "2")
	wantQuery(t, "a=1%26b=2", "a", "1&b=2")
	wantQuery(t, "a=%2541", "a", "%41")
	wantQuery(t, "a=%252541", "a", "%2541")
	wantQuery(t, "a=%2B41", "a", "+41")
	wantQuery(t, "a=%414", "a", "A4")
	wantQuery(t, "%20", " ", "")
	wantQuery(t, "%26", "&", "")
	wantQuery(t, "%0a=%0D%09", "\n", "\r\t")
}

// P11.1: every byte, as its two digits in small letters, in great ones and mixed.
func TestQueryEachNumber(t *testing.T) {
	const small, great = "0123456789abcdef", "0123456789ABCDEF"
	for c := range 256 {
		want := string([]byte{byte(c)})
		for _, first := range []string{small, great} {
			for _, second := range []string{small, great} {
				s := "%" + string(first[c/16]) + string(second[c%16])
				wantQuery(t, "x"+s+"="+s+"y", "x"+want, want+"y")
			}
		}
	}
}

// P11.1: other % stay, whatever two bytes stand behind them.
func TestQueryOtherNumbers(t *testing.T) {
	wantQuery(t, "a%=b%", "a%", "b%")
	wantQuery(t, "%", "%", "")
	wantQuery(t, "%4", "%4", "")
	wantQuery(t, "a=%", "a", "%")
	wantQuery(t, "a=%4", "a", "%4")
	wantQuery(t, "%4=1", "%4", "1")
	wantQuery(t, "a=%4&1=2", "a", "%4", "1", "2")
	wantQuery(t, "a=%&41=2", "a", "%", "41", "2")
	wantQuery(t, "%=41", "%", "41")
	wantQuery(t, "a=%4=1", "a", "%4=1")
	wantQuery(t, "a=%g1%1g%gg", "a", "%g1%1g%gg")
	wantQuery(t, "a=%G1%1G%zZ", "a", "%G1%1G%zZ")
	wantQuery(t, "a=%%41", "a", "%A")
	wantQuery(t, "a=%%%41%", "a", "%%A%")
	wantQuery(t, "a=%4%41", "a", "%4A")
	wantQuery(t, "a=%+1%1+%++", "a", "% 1%1 %  ")
	wantQuery(t, "a=%-1%0x41%_1", "a", "%-1%0x41%_1")
	wantQuery(t, "a=% 41%4 1", "a", "% 41%4 1")
	wantQuery(t, "a=%u0041", "a", "%u0041")
	wantQuery(t, "a=%\x00\xff", "a", "%\x00\xff")
	digits := "0123456789abcdefABCDEF"
	for c := range 256 {
		b := string([]byte{byte(c)})
		if strings.Contains(digits, b) || b == "&" || b == "=" || b == "+" {
			continue
		}
		wantQuery(t, "a=%"+b+"1", "a", "%"+b+"1")
		if b != "%" {
			wantQuery(t, "a=%1"+b+"1", "a", "%1"+b+"1")
		}
	}
}

// P11.1, R5: other bytes are as they are.
func TestQueryOtherBytes(t *testing.T) {
	for c := range 256 {
		b := string([]byte{byte(c)})
		if strings.Contains("&=+", b) {
			continue
		}
		wantQuery(t, b+"="+b, b, b)
	}
	wantQuery(t, "\x00\xff=\xff\x00&\xc3\xa4=\xc3", "\x00\xff", "\xff\x00", "\xc3\xa4", "\xc3")
}

// modelQuery goes from byte to byte, and cuts nothing.
func modelQuery(s string) []api.Pair {
	var l []api.Pair
	var p api.Pair
	some, behind := false, false
	add := func(b byte) {
		if behind {
			p.Value += string([]byte{b})
		} else {
			p.Name += string([]byte{b})
		}
	}
	digit := func(at int) int {
		if at >= len(s) {
			return -1
		}
		return strings.Index("0123456789abcdef", strings.ToLower(s[at:at+1]))
	}
	for at := 0; at < len(s); at++ {
		some = some || s[at] != '&'
		switch {
		case s[at] == '&' && some:
			l = append(l, p)
			p, some, behind = api.Pair{}, false, false
		case s[at] == '&':
		case s[at] == '=' && !behind:
			behind = true
		case s[at] == '+':
			add(' ')
		case s[at] == '%' && digit(at+1) >= 0 && digit(at+2) >= 0:
			add(byte(digit(at+1)*16 + digit(at+2)))
			at += 2
		default:
			add(s[at])
		}
	}
	if some {
		l = append(l, p)
	}
	return l
}

// P11.1: all short texts of the bytes that matter.
func TestQueryModel(t *testing.T) {
	for _, s := range joinedTexts([]string{"a", "&", "=", "+", "%", "2", "B"}, 6) {
		if got, want := Query(s), modelQuery(s); !slices.Equal(got, want) {
			t.Fatalf("Query(%q) = %q; want %q", s, got, want)
		}
	}
	for _, s := range joinedTexts([]string{"x", "&", "=", "%3", "%3D", "d", "%2", "6"}, 5) {
		if got, want := Query(s), modelQuery(s); !slices.Equal(got, want) {
			t.Fatalf("Query(%q) = %q; want %q", s, got, want)
		}
	}
}

// P11.2: parts between ;, in order, trimmed, Names and Values too.
func TestCookiesParts(t *testing.T) {
	wantCookies(t, `a=1; b="2"`, "a", "1", "b", "2")
	wantCookies(t, "")
	wantCookies(t, ";")
	wantCookies(t, " ; \t;; ")
	wantCookies(t, "a=1;b=2", "a", "1", "b", "2")
	wantCookies(t, ";a=1;;b=2; ;", "a", "1", "b", "2")
	wantCookies(t, " \ta\t = \t1 \t;\t b =2\t ", "a", "1", "b", "2")
	wantCookies(t, "b=2; a=1; c=3", "b", "2", "a", "1", "c", "3")
	wantCookies(t, "a=1; a=2; A=3; a=1", "a", "1", "a", "2", "A", "3", "a", "1")
	wantCookies(t, "a b=c d", "a b", "c d")
	wantCookies(t, "a \t b=c\t \td", "a \t b", "c\t \td")
	wantCookies(t, "\na\n=\r1\r", "\na\n", "\r1\r")
	wantCookies(t, "a=1, b=2", "a", "1, b=2")
	wantCookies(t, "a=1&b=2", "a", "1&b=2")
	wantCookies(t, "a+b=%41+", "a+b", "%41+")
	wantCookies(t, "A=B", "A", "B")
	wantCookies(t, "\x00=\xff", "\x00", "\xff")
}

// P11.2: the first = alone parts a Name from its Value.
func TestCookiesNamesAndValues(t *testing.T) {
	wantCookies(t, "a=", "a", "")
	wantCookies(t, "a= \t", "a", "")
	wantCookies(t, "a=b=c", "a", "b=c")
	wantCookies(t, "a==", "a", "=")
	wantCookies(t, "a = = b", "a", "= b")
	wantCookies(t, `a=b="c"`, "a", `b="c"`)
}

// P11.2: parts without =, or with an empty Name, are passed over.
func TestCookiesPassedOver(t *testing.T) {
	wantCookies(t, "a")
	wantCookies(t, "a; b=2", "b", "2")
	wantCookies(t, "b=2; a", "b", "2")
	wantCookies(t, "a=1; b; c=3", "a", "1", "c", "3")
	wantCookies(t, "=1")
	wantCookies(t, "=")
	wantCookies(t, " \t=1; a=2", "a", "2")
	wantCookies(t, "a=1; =2; b=3", "a", "1", "b", "3")
	wantCookies(t, "==a")
	wantCookies(t, `"a"`)
	wantCookies(t, `=""`)
}

// P11.2: a Value that is quoted is without its quotes; one that is not stays.
func TestCookiesQuotes(t *testing.T) {
	wantCookies(t, `a="1"`, "a", "1")
	wantCookies(t, `a=""`, "a", "")
	wantCookies(t, `a= "1" `, "a", "1")
	wantCookies(t, "a=\t\"1\"\t", "a", "1")
	wantCookies(t, `a=" 1 "`, "a", " 1 ")
	wantCookies(t, `a="1=2"`, "a", "1=2")
	wantCookies(t, `a="1;b=2"`, "a", `"1`, "b", `2"`)
	wantCookies(t, `a="1;2"`, "a", `"1`)
	wantCookies(t, `a="1; b="2"`, "a", `"1`, "b", "2")
	wantCookies(t, `a="`, "a", `"`)
	wantCookies(t, `a="1`, "a", `"1`)
	wantCookies(t, `a=1"`, "a", `1"`)
	wantCookies(t, `a="1"2`, "a", `"1"2`)
	wantCookies(t, `a=1"2"`, "a", `1"2"`)
	wantCookies(t, `a="1"2"`, "a", `"1"2"`)
	wantCookies(t, `a=""1""`, "a", `""1""`)
	wantCookies(t, `a="1" "2"`, "a", `"1" "2"`)
	wantCookies(t, `a="x\"y"`, "a", `x"y`)
	wantCookies(t, `a="x\\y"`, "a", `x\y`)
	wantCookies(t, `a="x\y"`, "a", "xy")
	wantCookies(t, `a="\\"`, "a", `\`)
	wantCookies(t, `a="x\"`, "a", `"x\"`)
	wantCookies(t, `a=x\"y`, "a", `x\"y`)
	wantCookies(t, `a=x\y`, "a", `x\y`)
	wantCookies(t, `a="\"1\""`, "a", `"1"`)
	wantCookies(t, "a=\"1\t2\"", "a", "1\t2")
	wantCookies(t, "a=\"1\n2\"", "a", "\"1\n2\"")
	wantCookies(t, "a=\"1\x002\"", "a", "\"1\x002\"")
	wantCookies(t, "a=\"\x7f\"", "a", "\"\x7f\"")
	wantCookies(t, "a=\"\xff\"", "a", "\xff")
	wantCookies(t, "a='1'", "a", "'1'")
	wantCookies(t, `"a"="b"`, `"a"`, "b")
	wantCookies(t, `"a=b"`, `"a`, `b"`)
	wantCookies(t, `"a;b"=1`, `b"`, "1")
}

// modelCookies parts by the last byte of each kind, from behind.
func modelCookies(s string) []api.Pair {
	var l []api.Pair
	for s != "" {
		at := strings.LastIndex(s, ";")
		if p, is := modelCookie(strings.Trim(s[at+1:], " \t")); is {
			l = append([]api.Pair{p}, l...)
		}
		s = s[:max(at, 0)]
	}
	return l
}

func modelCookie(s string) (api.Pair, bool) {
	names := strings.Split(s, "=")
	name := strings.Trim(names[0], " \t")
	if len(names) == 1 || name == "" {
		return api.Pair{}, false
	}
	value := strings.Trim(strings.Join(names[1:], "="), " \t")
	if plain, is := modelUnquoted(value); is {
		value = plain
	}
	return api.Pair{Name: name, Value: value}, true
}

func modelUnquoted(s string) (string, bool) {
	if len(s) < 2 || s[0] != '"' || s[len(s)-1] != '"' {
		return "", false
	}
	plain, taken := "", false
	for _, c := range []byte(s[1 : len(s)-1]) {
		switch {
		case taken || c != '"' && c != '\\':
			plain += string([]byte{c})
			taken = false
		case c == '"':
			return "", false
		default:
			taken = true
		}
	}
	return plain, !taken
}

// P11.2: all short texts of the bytes that matter.
func TestCookiesModel(t *testing.T) {
	for _, s := range joinedTexts([]string{"a", ";", "=", `"`, `\`, " ", "\t"}, 6) {
		if got, want := Cookies(s), modelCookies(s); !slices.Equal(got, want) {
			t.Fatalf("Cookies(%q) = %q; want %q", s, got, want)
		}
	}
	for _, s := range joinedTexts([]string{`"`, `\`, ";", "b=", "x"}, 5) {
		if got, want := Cookies("a="+s), modelCookies("a="+s); !slices.Equal(got, want) {
			t.Fatalf("Cookies(%q) = %q; want %q", "a="+s, got, want)
		}
	}
}

// P11.3: parts between commas, in order, without what stands behind a ;, trimmed, in small letters.
func TestLanguages(t *testing.T) {
	wantLanguages(t, "")
	wantLanguages(t, "en", "en")
	wantLanguages(t, "en, de;q=0.5, EN", "en", "de")
	wantLanguages(t, "de,en", "de", "en")
	wantLanguages(t, "fr;q=0.1,en;q=0.9,de", "fr", "en", "de")
	wantLanguages(t, " \ten\t , \t de \t", "en", "de")
	wantLanguages(t, "en \t; q=0.5 ,de", "en", "de")
	wantLanguages(t, "en;", "en")
	wantLanguages(t, "en;;q=1;x", "en")
	wantLanguages(t, "en;q=1,;de", "en")
	wantLanguages(t, "EN-us, De-AT", "en-us", "de-at")
	wantLanguages(t, "*", "*")
	wantLanguages(t, "en us", "en us")
	wantLanguages(t, "en\t \tus", "en\t \tus")
	wantLanguages(t, "\nen\r", "\nen\r")
	wantLanguages(t, "en=1&de", "en=1&de")
	wantLanguages(t, "\x00,\xff", "\x00", "\xff")
	wantLanguages(t, "@[`{", "@[`{")
	wantLanguages(t, "ABCDEFGHIJKLMNOPQRSTUVWXYZ", "abcdefghijklmnopqrstuvwxyz")
}

// P11.3: where nothing is left, nothing is taken.
func TestLanguagesEmpty(t *testing.T) {
	wantLanguages(t, ",")
	wantLanguages(t, " , \t,,")
	wantLanguages(t, ";")
	wantLanguages(t, ";q=1")
	wantLanguages(t, " \t;q=1, ;,;")
	wantLanguages(t, ",en,,de,", "en", "de")
	wantLanguages(t, "en,;q=1,de", "en", "de")
}

// P11.3: not twice the same, of which the first one stays.
func TestLanguagesTwice(t *testing.T) {
	wantLanguages(t, "en,en", "en")
	wantLanguages(t, "EN,en", "en")
	wantLanguages(t, "en,EN,eN,En", "en")
	wantLanguages(t, "en;q=1,en;q=0", "en")
	wantLanguages(t, "en, en\t;,de", "en", "de")
	wantLanguages(t, "de,en,de,fr,EN,DE", "de", "en", "fr")
	wantLanguages(t, "en,de,EN,fr", "en", "de", "fr")
	wantLanguages(t, "en,en-us,e,en-US", "en", "en-us", "e")
	wantLanguages(t, "\xc3\x84,\xc3\xa4", "\xc3\x84", "\xc3\xa4")
	wantLanguages(t, "^,~,@,`,[,{", "^", "~", "@", "`", "[", "{")
}

// P11.3: commas and ; within quotes part as others do.
func TestLanguagesQuotes(t *testing.T) {
	wantLanguages(t, `"a,b"`, `"a`, `b"`)
	wantLanguages(t, `"a;b"`, `"a`)
	wantLanguages(t, `"`, `"`)
	wantLanguages(t, `en;q="1,de"`, "en", `de"`)
}

// modelLanguages goes from byte to byte, and holds each one against those ahead of it.
func modelLanguages(s string) []string {
	var l []string
	one, over := "", false
	for _, c := range []byte(s + ",") {
		switch {
		case c == ',':
			one = strings.Trim(one, " \t")
			if one != "" && !slices.Contains(l, one) {
				l = append(l, one)
			}
			one, over = "", false
		case c == ';':
			over = true
		case !over && c >= 'A' && c <= 'Z':
			one += string([]byte{c + 32})
		case !over:
			one += string([]byte{c})
		}
	}
	return l
}

// P11.3: all short texts of the bytes that matter.
func TestLanguagesModel(t *testing.T) {
	for _, s := range joinedTexts([]string{"a", "A", "b", ",", ";", " ", "\t"}, 6) {
		if got, want := Languages(s), modelLanguages(s); !slices.Equal(got, want) {
			t.Fatalf("Languages(%q) = %q; want %q", s, got, want)
		}
	}
	for _, s := range joinedTexts([]string{"aB,", "Ab,", "b,", " ;,", "a;b,", ","}, 5) {
		if got, want := Languages(s), modelLanguages(s); !slices.Equal(got, want) {
			t.Fatalf("Languages(%q) = %q; want %q", s, got, want)
		}
	}
}

// P11.4: the browser, alone and beside the others.
func TestAgentBrowser(t *testing.T) {
	wantAgent(t, "", "OTHER", "", "OTHER")
	wantAgent(t, "Mozilla/4.5 [en] (X11; Linux)", "MOZILLA", "4.5", "UNIX")
	wantAgent(t, "Mozilla/4.0 (compatible; MSIE 5.01; Windows NT)", "MSIE", "5.01", "WIN")
	wantAgent(t, "MSIE 6 Mozilla/4", "MSIE", "6", "OTHER")
	wantAgent(t, "Mozilla/4 MSIE 6", "MSIE", "6", "OTHER")
	wantAgent(t, "MSIE", "MSIE", "", "OTHER")
	wantAgent(t, "Mozilla", "MOZILLA", "", "OTHER")
	wantAgent(t, "xMSIEx", "MSIE", "", "OTHER")
	wantAgent(t, "xMozillax", "MOZILLA", "", "OTHER")
	wantAgent(t, "xMSIE 6x", "MSIE", "6", "OTHER")
	wantAgent(t, "xMozilla/4x", "MOZILLA", "4", "OTHER")
	wantAgent(t, "Lynx/2.8", "OTHER", "", "OTHER")
	wantAgent(t, "4.5", "OTHER", "", "OTHER")
	wantAgent(t, "OTHER/1 OTHER 2", "OTHER", "", "OTHER")
	wantAgent(t, "MOZILLA/4", "OTHER", "", "OTHER")
	wantAgent(t, "mozilla/4", "OTHER", "", "OTHER")
	wantAgent(t, "msie 6", "OTHER", "", "OTHER")
	wantAgent(t, "Msie 6", "OTHER", "", "OTHER")
	wantAgent(t, "msie 6 Mozilla/4", "MOZILLA", "4", "OTHER")
	wantAgent(t, "M SIE 6 Mozill/4 MSI", "OTHER", "", "OTHER")
}

// P11.4: the version stands behind the first place of the browser's own word, and is nothing else.
func TestAgentVersion(t *testing.T) {
	wantAgent(t, "MSIE6", "MSIE", "", "OTHER")
	wantAgent(t, "MSIE/6", "MSIE", "", "OTHER")
	wantAgent(t, "MSIE\t6", "MSIE", "", "OTHER")
	wantAgent(t, "MSIE/6 Mozilla/4", "MSIE", "", "OTHER")
	wantAgent(t, "MSIEMozilla/4", "MSIE", "", "OTHER")
	wantAgent(t, "MSIE  6", "MSIE", "", "OTHER")
	wantAgent(t, "MSIE ", "MSIE", "", "OTHER")
	wantAgent(t, "MSIE x6", "MSIE", "", "OTHER")
	wantAgent(t, "Mozilla 4", "MOZILLA", "", "OTHER")
	wantAgent(t, "Mozilla4", "MOZILLA", "", "OTHER")
	wantAgent(t, "Mozilla/", "MOZILLA", "", "OTHER")
	wantAgent(t, "Mozilla/ 4", "MOZILLA", "", "OTHER")
	wantAgent(t, "Mozilla/x4", "MOZILLA", "", "OTHER")
	wantAgent(t, "Mozilla/-4", "MOZILLA", "", "OTHER")
	wantAgent(t, "Mozilla//4", "MOZILLA", "", "OTHER")
	wantAgent(t, "Mozilla/4", "MOZILLA", "4", "OTHER")
	wantAgent(t, "Mozilla/0123456789.", "MOZILLA", "0123456789.", "OTHER")
	wantAgent(t, "Mozilla/...", "MOZILLA", "...", "OTHER")
	wantAgent(t, "Mozilla/.5", "MOZILLA", ".5", "OTHER")
	wantAgent(t, "Mozilla/5.", "MOZILLA", "5.", "OTHER")
	wantAgent(t, "Mozilla/4..0.1b5", "MOZILLA", "4..0.1", "OTHER")
	wantAgent(t, "MSIE 5.5;4", "MSIE", "5.5", "OTHER")
	wantAgent(t, "MSIE 5,5", "MSIE", "5", "OTHER")
	wantAgent(t, "MSIE 5 5", "MSIE", "5", "OTHER")
	for c := range 256 {
		b := string([]byte{byte(c)})
		want := "1.2"
		if strings.Contains("0123456789.", b) {
			want += b + "3"
		}
		wantAgent(t, "Mozilla/1.2"+b+"3", "MOZILLA", want, "OTHER")
		wantAgent(t, "MSIE 1.2"+b+"3", "MSIE", want, "OTHER")
	}
}

// P11.4: of several places of the word, the first one counts, whether or not digits stand behind it.
func TestAgentSeveralPlaces(t *testing.T) {
	wantAgent(t, "Mozilla/4 Mozilla/5", "MOZILLA", "4", "OTHER")
	wantAgent(t, "Mozilla/x Mozilla/5", "MOZILLA", "", "OTHER")
	wantAgent(t, "Mozilla Mozilla/5", "MOZILLA", "5", "OTHER")
	wantAgent(t, "MozillaMozilla/5", "MOZILLA", "5", "OTHER")
	wantAgent(t, "MSIE 5 MSIE 6", "MSIE", "5", "OTHER")
	wantAgent(t, "MSIE x MSIE 6", "MSIE", "", "OTHER")
	wantAgent(t, "MSIE MSIE 6", "MSIE", "", "OTHER")
	wantAgent(t, "MSIE; MSIE 6", "MSIE", "6", "OTHER")
	wantAgent(t, "MSIEMSIE 6", "MSIE", "6", "OTHER")
	wantAgent(t, "mozilla/3 Mozilla/5", "MOZILLA", "5", "OTHER")
}

// P11.4: the system, alone and beside the others.
func TestAgentSystem(t *testing.T) {
	wantAgent(t, "Windows", "OTHER", "", "WIN")
	wantAgent(t, "Mac", "OTHER", "", "MAC")
	wantAgent(t, "X11", "OTHER", "", "UNIX")
	wantAgent(t, "xWindowsx", "OTHER", "", "WIN")
	wantAgent(t, "xMacx", "OTHER", "", "MAC")
	wantAgent(t, "xX11x", "OTHER", "", "UNIX")
	wantAgent(t, "Mac Windows", "OTHER", "", "WIN")
	wantAgent(t, "X11 Windows", "OTHER", "", "WIN")
	wantAgent(t, "X11 Mac Windows", "OTHER", "", "WIN")
	wantAgent(t, "X11 Mac", "OTHER", "", "MAC")
	wantAgent(t, "Mac X11", "OTHER", "", "MAC")
	for _, s := range []string{"windows", "WINDOWS", "Window", "Win", "mac", "MAC", "Ma", "x11", "X1", "X 11", "Linux", "UNIX"} {
		wantAgent(t, s, "OTHER", "", "OTHER")
	}
	wantAgent(t, "windows mac X11", "OTHER", "", "UNIX")
	wantAgent(t, "windows Mac", "OTHER", "", "MAC")
	wantAgent(t, "Mozilla/5.0 (Macintosh; Intel Mac OS X 10_15)", "MOZILLA", "5.0", "MAC")
}

// modelAgent looks at each place of the text.
func modelAgent(s string) [3]string {
	at := func(word string) int {
		for i := range len(s) {
			if strings.HasPrefix(s[i:], word) {
				return i
			}
		}
		return -1
	}
	answer := [3]string{"OTHER", "", "OTHER"}
	for _, one := range [][2]string{{"Mozilla", "/"}, {"MSIE", " "}} {
		if at(one[0]) < 0 {
			continue
		}
		answer[0], answer[1] = strings.ToUpper(one[0]), ""
		if from := at(one[0] + one[1]); from >= 0 {
			for _, c := range []byte(s[from+len(one[0])+1:]) {
				if c != '.' && (c < '0' || c > '9') {
					break
				}
				answer[1] += string([]byte{c})
			}
		}
	}
	for _, one := range [][2]string{{"X11", "UNIX"}, {"Mac", "MAC"}, {"Windows", "WIN"}} {
		if at(one[0]) >= 0 {
			answer[2] = one[1]
		}
	}
	return answer
}

// P11.4: all short texts of the words and bytes that matter.
func TestAgentModel(t *testing.T) {
	for _, s := range joinedTexts([]string{"MSIE", "Mozilla", " ", "/", "1.", "x", "Windows", "Mac", "X11"}, 5) {
		a, b, c := Agent(s)
		if got, want := [3]string{a, b, c}, modelAgent(s); got != want {
			t.Fatalf("Agent(%q) = %q; want %q", s, got, want)
		}
	}
}

// P11.5: the Value of the first pair of just that Name.
func TestFind(t *testing.T) {
	l := row("a", "1", "b", "2", "a", "3", "B", "4", "c", "", "", "5", "", "6")
	wantFind(t, l, "a", "1", true)
	wantFind(t, l, "b", "2", true)
	wantFind(t, l, "B", "4", true)
	wantFind(t, l, "c", "", true)
	wantFind(t, l, "", "5", true)
	wantFind(t, l, "A", "", false)
	wantFind(t, l, "C", "", false)
	wantFind(t, l, "d", "", false)
	wantFind(t, l, "aa", "", false)
	wantFind(t, l, " a", "", false)
	wantFind(t, l, "a ", "", false)
	wantFind(t, l, "1", "", false)
	wantFind(t, row("B", "1", "b", "2"), "b", "2", true)
	wantFind(t, row("ab", "1", "a", "2"), "a", "2", true)
	wantFind(t, row("\x00", "1", "\xff", "2"), "\xff", "2", true)
}

// P11.5, R3: an empty row has no pair.
func TestFindInNothing(t *testing.T) {
	for _, l := range [][]api.Pair{nil, {}} {
		wantFind(t, l, "", "", false)
		wantFind(t, l, "a", "", false)
	}
	wantFind(t, row("a", "1"), "", "", false)
	wantFind(t, row("", ""), "", "", true)
}

// plainRows are rows of pairs whose texts have letters and digits alone, Names some.
func plainRows() [][]api.Pair {
	names := []string{"a", "Z", "09", "MSIE", "a"}
	values := []string{"", "1", "aA", "41", "zZ9"}
	rows := [][]api.Pair{nil}
	for from := 0; len(rows) < 10000; from++ {
		for _, name := range names {
			for _, value := range values {
				rows = append(rows, slices.Concat(rows[from], row(name, value)))
			}
		}
	}
	const all = "abcdefghijklmnopqrstuvwxyzABCDEFGHIJKLMNOPQRSTUVWXYZ0123456789"
	var each []api.Pair
	for i := range len(all) {
		each = append(each, api.Pair{Name: all[i : i+1], Value: all[len(all)-1-i : len(all)-i]})
	}
	return append(rows, each, row(all, all))
}

// P11.6: pairs of letters and digits are read from their query, and from their cookie field, as they are.
func TestWhatFollows(t *testing.T) {
	for _, l := range plainRows() {
		var parts, quoted []string
		for _, p := range l {
			parts = append(parts, p.Name+"="+p.Value)
			quoted = append(quoted, p.Name+`="`+p.Value+`"`)
		}
		for _, got := range [][]api.Pair{
			Query(strings.Join(parts, "&")),
			Cookies(strings.Join(parts, ";")),
			Cookies(strings.Join(parts, "; ")),
			Cookies(strings.Join(quoted, "; ")),
		} {
			if !slices.Equal(got, l) {
				t.Fatalf("%q is read as %q", l, got)
			}
		}
	}
}

// R1, R4: a call changes no row that it is handed, and its answers share no memory with one another.
func TestAnswersAlone(t *testing.T) {
	l := row("a", "1", "b", "2", "a", "3")
	before := slices.Clone(l)
	Find(l, "a")
	Find(l, "c")
	if !slices.Equal(l, before) {
		t.Errorf("Find changed %q to %q", before, l)
	}
	for range 2 {
		pairs, languages := Query("a=1&b=2"), Languages("en,de")
		cookies := Cookies("a=1;b=2")
		if !slices.Equal(pairs, before[:2]) || !slices.Equal(cookies, before[:2]) || !slices.Equal(languages, []string{"en", "de"}) {
			t.Fatalf("a second call answers %q, %q, %q", pairs, cookies, languages)
		}
		clear(pairs[:cap(pairs)])
		clear(cookies[:cap(cookies)])
		clear(languages[:cap(languages)])
	}
}

// P1: every call ends at great texts of few and of many parts.
func TestGreatTexts(t *testing.T) {
	const many = 1 << 18
	for _, piece := range []string{"&", "=", "+", "%", "%4", ";", `"`, `\`, ",", " ", "a", "a=1&", "a=1;", `a="\";`, "EN,", "MSIE", "MSIE ", "Mozilla/", "1", "\x00"} {
		s := strings.Repeat(piece, many)
		Query(s)
		Cookies(s)
		Languages(s)
		Agent(s)
	}
	var different strings.Builder
	for i := range many {
		different.WriteString("l" + strconv.Itoa(i) + ",")
	}
	if got := len(Languages(different.String())); got != many {
		t.Errorf("of %d languages %d are taken", many, got)
	}
	if got := len(Query(strings.Repeat("a&", many))); got != many {
		t.Errorf("of %d pairs %d are read", many, got)
	}
	wantAgent(t, "MSIE "+strings.Repeat("1.", many)+"x", "MSIE", strings.Repeat("1.", many), "OTHER")
}
