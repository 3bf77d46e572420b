package lex

import (
	"fmt"
	"strings"
	"testing"

	"intarsia/api"
)

func blanks() []string { return []string{" ", "\t", "\n", "\r"} }

// wantTag wants a page of the tag alone, and one with text around it and within a remark, to have it.
func wantTag(t *testing.T, s string, want api.Token) {
	t.Helper()
	wantAll(t, s, want)
	wantAll(t, "x"+s+"y", text("x"), want, text("y"))
	wantAll(t, "<!--esi"+s+"-->", want)
}

// wantNoTag wants the error, whatever stands around the tag.
func wantNoTag(t *testing.T, s string, want api.Errno) {
	t.Helper()
	wantAllBad(t, s, want)
	wantAllBad(t, "x"+s+"y", want)
	wantAllBad(t, "<!--esi"+s+"-->", want)
}

// attrs are so many attributes of names of their own.
func attrs(count int) (written string, told []string) {
	for i := range count {
		name := "n" + strings.Repeat("-", i)
		value := fmt.Sprint(i)
		written += " " + name + `="` + value + `"`
		told = append(told, name, value)
	}
	return written, told
}

// P14.1: tags without attributes, with one, with several up to eight; nine are too many.
func TestAttributes(t *testing.T) {
	for count := range api.MaxAttrs + 1 {
		written, told := attrs(count)
		wantTag(t, "<esi:a"+written+">", opening("a", told...))
		wantTag(t, "<esi:a"+written+"/>", empty("a", told...))
		wantTag(t, "<esi:a"+written+" />", empty("a", told...))
	}
	for _, count := range []int{9, 10, 16} {
		written, _ := attrs(count)
		wantNoTag(t, "<esi:a"+written+">", api.ErrAttr)
		wantNoTag(t, "<esi:a"+written+"/>", api.ErrAttr)
	}
	wantTag(t, `<esi:include src="/x" alt="/y" onerror="continue"/>`, empty("include", "src", "/x", "alt", "/y", "onerror", "continue"))
	wantTag(t, `<esi:a c="1" b="2">`, opening("a", "c", "1", "b", "2"))
}

// P14.1: no two attributes have one name, wherever they stand.
func TestAttributesOfOneName(t *testing.T) {
	wantNoTag(t, `<esi:a b="1" b="2">`, api.ErrAttr)
	wantNoTag(t, `<esi:a b="1" b="1"/>`, api.ErrAttr)
	wantNoTag(t, `<esi:a b="1" c="2" b="3">`, api.ErrAttr)
	wantNoTag(t, `<esi:a c="2" b="1" d="" b="3">`, api.ErrAttr)
	wantNoTag(t, `<esi:a b="1" c="2" d="3" d="4">`, api.ErrAttr)
	wantTag(t, `<esi:a b="1" bb="1" b-="1" -b="1" -="1">`, opening("a", "b", "1", "bb", "1", "b-", "1", "-b", "1", "-", "1"))
	wantTag(t, `<esi:a a="1">`, opening("a", "a", "1"))
	wantAll(t, `<esi:a b="1"><esi:a b="1">`, opening("a", "b", "1"), opening("a", "b", "1"))
	written, _ := attrs(api.MaxAttrs)
	wantNoTag(t, "<esi:a"+written+` n="">`, api.ErrAttr)
	written, _ = attrs(api.MaxAttrs - 1)
	wantNoTag(t, "<esi:a"+written+` n="">`, api.ErrAttr)
}

// P14.1: ErrAttr is told behind the attribute's =, not ahead of it, and whatever comes then.
func TestAttributesErrorPlace(t *testing.T) {
	nine, _ := attrs(9)
	for _, s := range []string{`<esi:a b="1" b="`, "<esi:a" + nine[:len(nine)-2]} {
		beginning := s[:len(s)-1]
		for _, behind := range []string{"", `"`, "x", ">", " ", "=", `"<`, `"">`} {
			wantNoTag(t, beginning+behind, api.ErrAttr)
		}
		named := beginning[:len(beginning)-1]
		for _, behind := range []string{"", " =", ">", "/>", `"`, " ", "A", "<", "\x00"} {
			wantNoTag(t, named+behind, api.ErrTag)
		}
		wantFeed(t, api.Lexer{}, named, api.Lexer{Rest: named})
		wantFeedBad(t, api.Lexer{}, beginning, api.ErrAttr)
	}
	wantNoTag(t, `<esi:a b="1" b c="2">`, api.ErrTag)
	wantNoTag(t, `<esi:a b="1"b="2">`, api.ErrTag)
}

// P14.1: names are one or more of a to z and -.
func TestNames(t *testing.T) {
	for _, name := range []string{"a", "z", "-", "az", "a-b", "-a", "a-", "--", "include", "abcdefghijklmnopqrstuvwxyz"} {
		wantTag(t, "<esi:"+name+">", opening(name))
		wantTag(t, "<esi:"+name+"/>", empty(name))
		wantTag(t, "</esi:"+name+">", closing(name))
		wantTag(t, "<esi:x "+name+`="v">`, opening("x", name, "v"))
	}
	for n := range 256 {
		b := string([]byte{byte(n)})
		if n >= 'a' && n <= 'z' || b == "-" {
			wantTag(t, "<esi:"+b+">", opening(b))
			wantTag(t, "<esi:x"+b+"y/>", empty("x"+b+"y"))
			wantTag(t, "</esi:"+b+"x>", closing(b+"x"))
			wantTag(t, "<esi:x "+b+`="">`, opening("x", b, ""))
			wantTag(t, "<esi:x y"+b+`z="">`, opening("x", "y"+b+"z", ""))
			continue
		}
		wantNoTag(t, "<esi:"+b+">", api.ErrTag)
		wantNoTag(t, "</esi:"+b+">", api.ErrTag)
		wantNoTag(t, "<esi:x y"+b+`z="">`, api.ErrTag)
		if b == ">" {
			continue
		}
		wantNoTag(t, "<esi:x"+b+"y>", api.ErrTag)
		wantNoTag(t, "</esi:x"+b+"y>", api.ErrTag)
		wantNoTag(t, "<esi:x "+b+`="">`, api.ErrTag)
	}
	wantNoTag(t, "<esi:>", api.ErrTag)
	wantNoTag(t, "<esi:/>", api.ErrTag)
	wantNoTag(t, "</esi:>", api.ErrTag)
	wantNoTag(t, "<esi: a>", api.ErrTag)
	wantNoTag(t, "</esi: a>", api.ErrTag)
	wantNoTag(t, `<esi: a="b">`, api.ErrTag)
	wantNoTag(t, `<esi:x ="b">`, api.ErrTag)
	wantNoTag(t, "<esi:Include>", api.ErrTag)
	wantNoTag(t, "<esi:includE/>", api.ErrTag)
	wantNoTag(t, `<esi:include SRC="/x"/>`, api.ErrTag)
	wantNoTag(t, "</esi:Include>", api.ErrTag)
	wantNoTag(t, "<esi:a:b>", api.ErrTag)
	wantNoTag(t, "<esi:a1>", api.ErrTag)
	wantNoTag(t, "<esi:ä>", api.ErrTag)
}

// P14.1: an attribute has =, and a value within ".
func TestAttributesParts(t *testing.T) {
	wantNoTag(t, "<esi:a b>", api.ErrTag)
	wantNoTag(t, "<esi:a b/>", api.ErrTag)
	wantNoTag(t, "<esi:a b c>", api.ErrTag)
	wantNoTag(t, "<esi:a b=>", api.ErrTag)
	wantNoTag(t, "<esi:a b=/>", api.ErrTag)
	wantNoTag(t, "<esi:a b=c>", api.ErrTag)
	wantNoTag(t, "<esi:a b='c'>", api.ErrTag)
	wantNoTag(t, `<esi:a b"c">`, api.ErrTag)
	wantNoTag(t, `<esi:a "c">`, api.ErrTag)
	wantNoTag(t, `<esi:a =>`, api.ErrTag)
	wantNoTag(t, `<esi:a b=="c">`, api.ErrTag)
	wantNoTag(t, `<esi:a b="c>`, api.ErrTag)
	wantNoTag(t, `<esi:a b=c">`, api.ErrTag)
	wantNoTag(t, `<esi:a b="c"">`, api.ErrTag)
	wantNoTag(t, `<esi:a b=""c"">`, api.ErrTag)
	wantNoTag(t, `<esi:a b="c"d="e">`, api.ErrTag)
	wantNoTag(t, `<esi:a b="c",d="e">`, api.ErrTag)
	wantNoTag(t, `<esi:a="b">`, api.ErrTag)
	wantNoTag(t, `<esi:a b="c"x>`, api.ErrTag)
}

// P14.1: values have any bytes but ", < and >.
func TestValues(t *testing.T) {
	for n := range 256 {
		b := string([]byte{byte(n)})
		switch b {
		case `"`:
			wantTag(t, `<esi:a b="`+b+`>`, opening("a", "b", ""))
			wantNoTag(t, `<esi:a b="x`+b+`y">`, api.ErrTag)
		case "<", ">":
			wantNoTag(t, `<esi:a b="`+b+`">`, api.ErrTag)
			wantNoTag(t, `<esi:a b="x`+b+`y">`, api.ErrTag)
			wantNoTag(t, `<esi:a b="`+b, api.ErrTag)
		default:
			wantTag(t, `<esi:a b="`+b+`">`, opening("a", "b", b))
			wantTag(t, `<esi:a b="x`+b+`y"/>`, empty("a", "b", "x"+b+"y"))
		}
	}
	wantTag(t, `<esi:a b="">`, opening("a", "b", ""))
	wantTag(t, `<esi:a b="" c=""/>`, empty("a", "b", "", "c", ""))
	wantTag(t, `<esi:a b=" c = d / -- ' ">`, opening("a", "b", " c = d / -- ' "))
	wantTag(t, `<esi:a b="--&gt;%20\n">`, opening("a", "b", `--&gt;%20\n`))
	wantTag(t, "<esi:a b=\"\x00ä\xff\r\n\t\">", opening("a", "b", "\x00ä\xff\r\n\t"))
	wantTag(t, `<esi:when test="$(A{b|'c d'})==1">`, opening("when", "test", "$(A{b|'c d'})==1"))
	wantNoTag(t, `<esi:a b="<!--esi">`, api.ErrTag)
	wantNoTag(t, `<esi:a b="-->">`, api.ErrTag)
}

// P14.1: of each kind of blanks at least one stands ahead of an attribute, any number ahead of > and />, and none elsewhere.
func TestBlanks(t *testing.T) {
	several := append(blanks(), "  ", "\r\n", " \t\n\r", "\r\r\n\n\t\t  ")
	for _, b := range several {
		wantTag(t, "<esi:a"+b+">", opening("a"))
		wantTag(t, "<esi:a"+b+"/>", empty("a"))
		wantTag(t, "</esi:a"+b+">", closing("a"))
		wantTag(t, "<esi:a"+b+`b="c">`, opening("a", "b", "c"))
		wantTag(t, `<esi:a b="c"`+b+">", opening("a", "b", "c"))
		wantTag(t, `<esi:a b="c"`+b+"/>", empty("a", "b", "c"))
		wantTag(t, `<esi:a b="c"`+b+`d="e"/>`, empty("a", "b", "c", "d", "e"))
		wantTag(t, `<esi:a b="`+b+`"/>`, empty("a", "b", b))
		for _, s := range []string{
			"<@esi:a>", "<e@si:a>", "<esi@:a>", "</@esi:a>", "<@/esi:a>",
		} {
			s = strings.ReplaceAll(s, "@", b)
			wantAll(t, s, text(s))
		}
		for _, s := range []string{
			"<esi:@a>", "</esi:@a>", "<esi:a/@>", "<esi:a@/@>", `<esi:a b@="c">`, `<esi:a b=@"c">`, "<esi:a@b>",
			"</esi:a@b>", "<esi:a b@c>", "<esi:a@",
		} {
			wantNoTag(t, strings.ReplaceAll(s, "@", b), api.ErrTag)
		}
	}
	for n := range 256 {
		b := string([]byte{byte(n)})
		switch {
		case strings.Contains(" \t\n\r", b):
		case b == ">":
			wantAll(t, `<esi:a`+b+`b="c">`, opening("a"), text(`b="c">`))
		default:
			wantNoTag(t, `<esi:a`+b+`b="c">`, api.ErrTag)
			wantNoTag(t, `<esi:a b="c"`+b+`d="e">`, api.ErrTag)
			wantNoTag(t, `<esi:a b="c" `+b+` >`, api.ErrTag)
			wantNoTag(t, `</esi:a `+b+`>`, api.ErrTag)
		}
	}
}

// P14.1: behind / there is > and nothing else.
func TestEmptyTagsEnds(t *testing.T) {
	for n := range 256 {
		if b := string([]byte{byte(n)}); b != ">" {
			wantNoTag(t, "<esi:a/"+b+">", api.ErrTag)
			wantNoTag(t, `<esi:a b="c"/`+b+">", api.ErrTag)
			wantNoTag(t, `<esi:a /`+b, api.ErrTag)
		}
	}
	wantAll(t, "<esi:a/>>", empty("a"), text(">"))
	wantAll(t, "<esi:a>/>", opening("a"), text("/>"))
}

// P14.1: closing tags have a name, and blanks behind it; no more.
func TestClosingTags(t *testing.T) {
	wantTag(t, "</esi:a>", closing("a"))
	wantTag(t, "</esi:a-b   >", closing("a-b"))
	wantNoTag(t, "</esi:a/>", api.ErrTag)
	wantNoTag(t, "</esi:a />", api.ErrTag)
	wantNoTag(t, `</esi:a b="c">`, api.ErrTag)
	wantNoTag(t, "</esi:a b>", api.ErrTag)
	wantNoTag(t, "</esi:>", api.ErrTag)
	wantNoTag(t, "</esi: >", api.ErrTag)
	wantNoTag(t, "</esi:a<", api.ErrTag)
	wantNoTag(t, `</esi:a b="c" b="d">`, api.ErrTag)
}

// sized are tags of so many bytes, each long by another part, with the token that each is.
func sized(size int) map[string]api.Token {
	all := map[string]api.Token{}
	add := func(ahead, part, behind string, token func(filled string) api.Token) {
		filled := strings.Repeat(part, size-len(ahead)-len(behind))
		all[ahead+filled+behind] = token(filled)
	}
	add("<esi:", "n", ">", func(s string) api.Token { return opening(s) })
	add("<esi:", "n", "/>", func(s string) api.Token { return empty(s) })
	add("</esi:", "n", ">", func(s string) api.Token { return closing(s) })
	add("<esi:a", " ", ">", func(s string) api.Token { return opening("a") })
	add("<esi:a", " ", "/>", func(s string) api.Token { return empty("a") })
	add("</esi:a", "\n", ">", func(s string) api.Token { return closing("a") })
	add("<esi:a", "\t", `b="c">`, func(s string) api.Token { return opening("a", "b", "c") })
	add("<esi:a ", "n", `="c"/>`, func(s string) api.Token { return empty("a", s, "c") })
	add(`<esi:a b="`, "v", `">`, func(s string) api.Token { return opening("a", "b", s) })
	add(`<esi:a b="c" d="`, "\xff", `"/>`, func(s string) api.Token { return empty("a", "b", "c", "d", s) })
	return all
}

// P14.1: a tag has at most 400 bytes.
func TestLongTags(t *testing.T) {
	for _, size := range []int{api.MaxTag - 1, api.MaxTag} {
		for s, token := range sized(size) {
			wantTag(t, s, token)
			wantAll(t, s+s, token, token)
		}
	}
	for _, size := range []int{api.MaxTag + 1, api.MaxTag + 2, 2 * api.MaxTag} {
		for s := range sized(size) {
			wantNoTag(t, s, api.ErrLong)
		}
	}
}

// P14.1: a tag of 400 bytes that is not whole is ErrTag at the page's end, ErrLong at any byte that comes then.
func TestLongTagsCut(t *testing.T) {
	for s := range sized(api.MaxTag + 1) {
		wantAllBad(t, s[:api.MaxTag-1], api.ErrTag)
		wantAllBad(t, s[:api.MaxTag], api.ErrTag)
		for n := range 256 {
			wantAllBad(t, s[:api.MaxTag]+string([]byte{byte(n)}), api.ErrLong)
		}
	}
}

// P14.1: what comes first, byte by byte, is told: ErrTag at byte 400, ErrLong at byte 401.
func TestLongOrWrong(t *testing.T) {
	for _, beginning := range []string{"<esi:", "</esi:"} {
		name := func(size int) string { return beginning + strings.Repeat("n", size-len(beginning)) }
		wantNoTag(t, name(api.MaxTag-1)+"A", api.ErrTag)
		wantNoTag(t, name(api.MaxTag-1)+"AA", api.ErrTag)
		wantNoTag(t, name(api.MaxTag-1)+"A>", api.ErrTag)
		wantNoTag(t, name(api.MaxTag)+"A", api.ErrLong)
		wantNoTag(t, name(api.MaxTag)+">", api.ErrLong)
		wantNoTag(t, name(api.MaxTag)+"/>", api.ErrLong)
		wantNoTag(t, name(api.MaxTag-1)+"/"+"A", map[string]api.Errno{"<esi:": api.ErrLong, "</esi:": api.ErrTag}[beginning])
	}
	value := func(size int) string { return `<esi:a b="` + strings.Repeat("v", size-10) }
	wantNoTag(t, value(api.MaxTag-1)+"<", api.ErrTag)
	wantNoTag(t, value(api.MaxTag-1)+">", api.ErrTag)
	wantNoTag(t, value(api.MaxTag)+"<", api.ErrLong)
	wantNoTag(t, value(api.MaxTag)+">", api.ErrLong)
	wantNoTag(t, value(api.MaxTag-1)+`">`, api.ErrLong)
	wantNoTag(t, value(api.MaxTag-1)+`"A`, api.ErrLong)
	wantNoTag(t, value(api.MaxTag-2)+`"A`, api.ErrTag)
}

// P14.1: ErrAttr behind a = that is byte 399 or 400, ErrLong at byte 401, if it is a = too.
func TestLongOrAttribute(t *testing.T) {
	nine, _ := attrs(9)
	for _, behind := range []string{` b="" b`, nine[:len(nine)-4]} {
		filled := func(size int) string {
			return "<esi:" + strings.Repeat("a", size-5-len(behind)) + behind
		}
		for _, size := range []int{api.MaxTag - 2, api.MaxTag - 1} {
			s := filled(size)
			wantNoTag(t, s+"=", api.ErrAttr)
			wantNoTag(t, s+"=A", api.ErrAttr)
			wantNoTag(t, s+`="">`, api.ErrAttr)
			wantNoTag(t, s+">", api.ErrTag)
		}
		wantNoTag(t, filled(api.MaxTag)+"=", api.ErrLong)
		wantNoTag(t, filled(api.MaxTag)+`="">`, api.ErrLong)
		wantAllBad(t, filled(api.MaxTag-1), api.ErrTag)
		wantAllBad(t, filled(api.MaxTag), api.ErrTag)
	}
}

// P14.1: a tag that is not whole at the page's end is ErrTag, wherever it ends.
func TestTagsCut(t *testing.T) {
	for _, s := range []string{
		`<esi:include src="/x" alt="/y" />`, "<esi:a>", "<esi:a-b\t\r\n>", "</esi:a  >", `<esi:a b="" c=" "/>`,
	} {
		mark := strings.Index(s, ":") + 1
		for n := mark; n < len(s); n++ {
			wantAllBad(t, s[:n], api.ErrTag)
			wantAllBad(t, "x"+s[:n], api.ErrTag)
			wantAllBad(t, "<!--esi"+s[:n], api.ErrTag)
		}
	}
}

// A fault of the program's own is no fault of the page's.
func TestReaderOtherPanics(t *testing.T) {
	defer func() {
		if recover() == nil {
			t.Error("a mark that is not whole was read as a tag's")
		}
	}()
	readTag("<es")
}
