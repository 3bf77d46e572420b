package lex

import (
	"fmt"
	"reflect"
	"slices"
	"strings"
	"testing"

	"intarsia/api"
)

func text(s string) api.Token { return api.Token{Kind: api.TText, Text: s} }

func closing(name string) api.Token { return api.Token{Kind: api.TClose, Text: name} }

// tag makes one with attributes, each with its value behind it.
func tag(kind int, name string, attrs ...string) api.Token {
	t := api.Token{Kind: kind, Text: name}
	for i := 0; i < len(attrs); i += 2 {
		t.Attrs = append(t.Attrs, api.Pair{Name: attrs[i], Value: attrs[i+1]})
	}
	return t
}

func opening(name string, attrs ...string) api.Token { return tag(api.TOpen, name, attrs...) }

func empty(name string, attrs ...string) api.Token { return tag(api.TEmpty, name, attrs...) }

func isSameToken(a, b api.Token) bool {
	return a.Kind == b.Kind && a.Text == b.Text && slices.Equal(a.Attrs, b.Attrs)
}

func isSame(a, b []api.Token) bool { return slices.EqualFunc(a, b, isSameToken) }

// told is what is said of tokens where they are not as wanted.
func told(l []api.Token) string {
	var s string
	for _, t := range l {
		s += fmt.Sprintf(" %d%.50q%.50q", t.Kind, t.Text, t.Attrs)
	}
	return fmt.Sprintf("%d:%.600s", len(l), s)
}

func wantAll(t *testing.T, s string, want ...api.Token) {
	t.Helper()
	if got, bad := All(s); bad != api.OK || !isSame(got, want) {
		t.Errorf("All(%.200q) = %s, %d; want %s", s, told(got), bad, told(want))
	}
}

func wantAllBad(t *testing.T, s string, want api.Errno) {
	t.Helper()
	if got, bad := All(s); bad != want || len(got) > 0 {
		t.Errorf("All(%.500q) = %s, %d; want nothing, %d", s, told(got), bad, want)
	}
}

// joinedParts are all texts of at most so many of the parts.
func joinedParts(parts []string, most int) []string {
	all := []string{""}
	from := 0
	for range most {
		to := len(all)
		for _, s := range all[from:to] {
			for _, part := range parts {
				all = append(all, s+part)
			}
		}
		from = to
	}
	return all
}

// P14.1, the chapter's examples.
func TestExamples(t *testing.T) {
	wantAll(t, `a<esi:include src="/x"/>b`, text("a"), empty("include", "src", "/x"), text("b"))
	wantAll(t, `<!--esi <esi:remove>-->`, text(" "), opening("remove"))
}

// P14.1: a page without marks is one text, an empty one nothing.
func TestAllWithoutMarks(t *testing.T) {
	wantAll(t, "")
	for _, s := range []string{
		"a", " ", "\n", "\x00", "\xff\xfe", "ä", "abc def", "<", ">", "/", "<>", "</>", "<b>x</b>", "<esi>", "</esi>",
		"<ESI:a>", "<Esi:a>", "</ESI:a>", "<esi :a>", "< esi:a>", "<-esi:a>", "esi:a", "/esi:a>", "<!--ESI x", "<!--Esi",
		"<!-- esi", "<!--x-->", "<!-- x -->", "-->", "a-->b", "--", "-", "---->", "<!---->", "<!", "<!--es i", "<//esi:a>",
		"<esi;a>", "&lt;esi:a>", "< /esi:a>", "<\x00esi:a>",
	} {
		wantAll(t, s, text(s))
		wantAll(t, s+s, text(s+s))
	}
}

// P14.1: marks that stand alone, at the beginning, within a page and at its end.
func TestAllMarksPlaces(t *testing.T) {
	wantAllBad(t, "<esi:", api.ErrTag)
	wantAllBad(t, "</esi:", api.ErrTag)
	wantAll(t, "<!--esi")
	wantAll(t, "-->", text("-->"))
	for s, token := range map[string]api.Token{"<esi:a>": opening("a"), "<esi:a/>": empty("a"), "</esi:a>": closing("a")} {
		wantAll(t, s, token)
		wantAll(t, s+"x", token, text("x"))
		wantAll(t, "x"+s, text("x"), token)
		wantAll(t, "x"+s+"y", text("x"), token, text("y"))
		wantAll(t, s+s, token, token)
		wantAll(t, s+">"+s, token, text(">"), token)
	}
	wantAll(t, "<!--esix", text("x"))
	wantAll(t, "x<!--esi", text("x"))
	wantAll(t, "x<!--esiy", text("xy"))
	wantAll(t, "<!--esi:a>", text(":a>"))
	wantAllBad(t, "x<esi:", api.ErrTag)
	wantAllBad(t, "x</esi:", api.ErrTag)
	wantAllBad(t, "<esi:x", api.ErrTag)
	wantAllBad(t, "</esi:x", api.ErrTag)
	wantAllBad(t, "<esi:a><esi:", api.ErrTag)
}

// P14.1: beginnings of marks that become none, and marks right behind them.
func TestAllBeginningsOfMarks(t *testing.T) {
	for _, mark := range []string{"<esi:", "</esi:", "<!--esi", "-->"} {
		for n := 1; n < len(mark); n++ {
			beginning := mark[:n]
			wantAll(t, beginning, text(beginning))
			wantAll(t, beginning+"x", text(beginning+"x"))
			wantAll(t, beginning+"<esi:a>", text(beginning), opening("a"))
			wantAll(t, beginning+"</esi:a>", text(beginning), closing("a"))
			wantAll(t, beginning+"<!--esix", text(beginning+"x"))
			wantAll(t, "<!--esi"+beginning, text(beginning))
			wantAll(t, "<!--esi"+beginning+"x", text(beginning+"x"))
			wantAll(t, "<!--esi"+beginning+"<esi:a>", text(beginning), opening("a"))
			wantAll(t, "<!--esi"+beginning+"</esi:a>", text(beginning), closing("a"))
			wantAll(t, beginning+beginning, text(beginning+beginning))
		}
	}
	wantAll(t, "<<esi:a>", text("<"), opening("a"))
	wantAll(t, "<<<</esi:a>", text("<<<"), closing("a"))
	wantAll(t, "<!-<esi:a>", text("<!-"), opening("a"))
	wantAll(t, "<!--<esi:a>-->", text("<!--"), opening("a"), text("-->"))
	wantAll(t, "<!--es<!--esix", text("<!--esx"))
	wantAll(t, "<!--esi--->", text("-"))
	wantAll(t, "<!--esi---->", text("--"))
	wantAll(t, "<!--esi->-->", text("->"))
	wantAll(t, "<!--esi-<esi:a>->", text("-"), opening("a"), text("->"))
	wantAll(t, "<!--esi--<!--esi>", text("--<!--esi>"))
}

// P14.1: within a remark that is to be read <!--esi is no mark, outside of one --> is none.
func TestAllRemarks(t *testing.T) {
	wantAll(t, "<!--esi-->")
	wantAll(t, "<!--esia-->", text("a"))
	wantAll(t, "<!--esi-->-->", text("-->"))
	wantAll(t, "-->-->", text("-->-->"))
	wantAll(t, "--><!--esi-->", text("-->"))
	wantAll(t, "<!--esi<!--esi", text("<!--esi"))
	wantAll(t, "<!--esi<!--esi-->-->", text("<!--esi-->"))
	wantAll(t, "<!--esi<!--esi--><!--esi-->", text("<!--esi"))
	wantAll(t, "<!--esia--><!--esib-->", text("ab"))
	wantAll(t, "a<!--esib-->c<!--esid-->e-->f", text("abcde-->f"))
	wantAll(t, "<!--esi<!--x-->y-->", text("<!--xy-->"))
	wantAll(t, "<!--x<!--esiy-->z-->", text("<!--xyz-->"))
	wantAll(t, "a<!--esib<esi:c>d-->e<esi:f/>g", text("ab"), opening("c"), text("de"), empty("f"), text("g"))
	wantAll(t, "<!--esi<esi:a><!--esi</esi:a>-->-->", opening("a"), text("<!--esi"), closing("a"), text("-->"))
	wantAll(t, "<!--esi <esi:a>", text(" "), opening("a"))
	wantAllBad(t, "<!--esi <esi:a -->", api.ErrTag)
	wantAllBad(t, "<esi:a <!--esi>", api.ErrTag)
}

// P14.1: the page's error is told, whatever stands ahead of it and behind.
func TestAllFirstError(t *testing.T) {
	wantAllBad(t, `a<esi:b>c</esi:b>d<esi:A>`, api.ErrTag)
	wantAllBad(t, `<esi:A><esi:a b="" b="">`, api.ErrTag)
	wantAllBad(t, `<esi:a b="" b=""><esi:A>`, api.ErrAttr)
	wantAllBad(t, `<esi:a b="" b=""><esi:`, api.ErrAttr)
	wantAllBad(t, "<esi:"+strings.Repeat("a", api.MaxTag)+"><esi:A>", api.ErrLong)
	wantAllBad(t, "<!--esi<esi:A>-->", api.ErrTag)
	wantAllBad(t, "<esi:a><esi:b></esi:a></esi:b><esi:c", api.ErrTag)
}

func wantJoin(t *testing.T, l []api.Token, want ...api.Token) {
	t.Helper()
	before := clone(l)
	if got := Join(l); !isSame(got, want) {
		t.Errorf("Join(%s) = %s; want %s", told(l), told(got), told(want))
	}
	if !reflect.DeepEqual(l, before) {
		t.Errorf("Join changed %s to %s", told(before), told(l))
	}
}

func clone(l []api.Token) []api.Token {
	l = slices.Clone(l)
	for i := range l {
		l[i].Attrs = slices.Clone(l[i].Attrs)
	}
	return l
}

// P14.1: texts behind one another are one of all their bytes, empty ones go.
func TestJoin(t *testing.T) {
	a, b, c, none := text("a"), text("b"), text("c"), text("")
	x, y, z := opening("x", "k", "v", "l", ""), closing("y"), empty("z", "k", "v")
	wantJoin(t, nil)
	wantJoin(t, []api.Token{})
	wantJoin(t, []api.Token{none})
	wantJoin(t, []api.Token{none, none, none})
	wantJoin(t, []api.Token{a}, a)
	wantJoin(t, []api.Token{a, b}, text("ab"))
	wantJoin(t, []api.Token{b, a}, text("ba"))
	wantJoin(t, []api.Token{a, b, c}, text("abc"))
	wantJoin(t, []api.Token{none, a}, a)
	wantJoin(t, []api.Token{a, none}, a)
	wantJoin(t, []api.Token{none, a, none, none, b, none}, text("ab"))
	wantJoin(t, []api.Token{x}, x)
	wantJoin(t, []api.Token{x, y, z}, x, y, z)
	wantJoin(t, []api.Token{x, x}, x, x)
	wantJoin(t, []api.Token{none, x, none, y, none}, x, y)
	wantJoin(t, []api.Token{none, none, x, none, none}, x)
	wantJoin(t, []api.Token{a, x, b}, a, x, b)
	wantJoin(t, []api.Token{a, b, x, b, c, y, c, a}, text("ab"), x, text("bc"), y, text("ca"))
	wantJoin(t, []api.Token{x, a, none, b, z}, x, text("ab"), z)
	wantJoin(t, []api.Token{a, none, x, none, b}, a, x, b)
	wantJoin(t, []api.Token{text("\x00\xff"), text("<esi:a>"), text(" ")}, text("\x00\xff<esi:a> "))
}

// P14.1: what is no text stays as it is, whatever it has; a text has no attributes.
func TestJoinWhateverItHas(t *testing.T) {
	for _, kind := range []int{api.TOpen, api.TClose, api.TEmpty, 4, -1} {
		nameless := tag(kind, "")
		full := tag(kind, "A b", "k", "v", "k", "<", "", "")
		wantJoin(t, []api.Token{nameless, nameless}, nameless, nameless)
		wantJoin(t, []api.Token{full, text("a"), nameless, text(""), full}, full, text("a"), nameless, full)
	}
	wantJoin(t, []api.Token{tag(api.TText, "a", "k", "v"), tag(api.TText, "b", "l", "w")}, text("ab"))
	wantJoin(t, []api.Token{tag(api.TText, "", "k", "v")})
}

// P14.1: of all rows of a choice of tokens no text stands behind another one, none is empty, and all bytes are there.
func TestJoinAllShort(t *testing.T) {
	choice := map[string]api.Token{"a": text("a"), "bc": text("bc"), "": text(""), "<x>": opening("x"), "</x>": closing("x")}
	row := func(s string) []api.Token {
		var l []api.Token
		for _, part := range strings.Split(s, ",")[1:] {
			l = append(l, choice[part])
		}
		return l
	}
	for _, s := range joinedParts([]string{",a", ",bc", ",", ",<x>", ",</x>"}, 6) {
		// Between marks of tags all that is left of a row is one text, or nothing.
		joined := strings.ReplaceAll(s, ",", "")
		var want []api.Token
		for len(joined) > 0 {
			part := joined
			if at := strings.Index(joined, "<"); at > 0 {
				part = joined[:at]
			} else if at == 0 {
				part = joined[:strings.Index(joined, ">")+1]
			}
			joined = joined[len(part):]
			if t, is := choice[part]; is {
				want = append(want, t)
			} else {
				want = append(want, text(part))
			}
		}
		wantJoin(t, row(s), want...)
	}
}

// R4: what Join answers shares nothing with what it was handed.
func TestJoinSharesNothing(t *testing.T) {
	l := []api.Token{opening("x", "k", "v"), text("a"), text("b"), empty("y", "k", "v")}
	before := clone(l)
	got := Join(l)
	for i := range got {
		got[i].Text = "changed"
		for k := range got[i].Attrs {
			got[i].Attrs[k].Value = "changed"
		}
		got[i].Attrs = append(got[i].Attrs, api.Pair{Name: "changed"})
	}
	if !reflect.DeepEqual(l, before) {
		t.Errorf("changes to what Join answered changed %s to %s", told(before), told(l))
	}
}

// P1: much is parted and joined too.
func TestMuch(t *testing.T) {
	const many = 200000
	wantAll(t, strings.Repeat("-", many), text(strings.Repeat("-", many)))
	wantAll(t, strings.Repeat("<", many), text(strings.Repeat("<", many)))
	wantAll(t, strings.Repeat("<!--es", many), text(strings.Repeat("<!--es", many)))
	wantAll(t, "<!--esi"+strings.Repeat("-", many)+">", text(strings.Repeat("-", many-2)))
	wantAll(t, strings.Repeat("<!--esia-->", many), text(strings.Repeat("a", many)))
	if l, bad := All(strings.Repeat("<esi:a>b", many)); bad != api.OK || len(l) != 2*many {
		t.Errorf("%d tokens, %d; want %d", len(l), bad, 2*many)
	}
	wantJoin(t, slices.Repeat([]api.Token{text("a")}, many), text(strings.Repeat("a", many)))
	wantAllBad(t, "<esi:a b=\""+strings.Repeat("c", many), api.ErrLong)
	wantAllBad(t, "<esi:"+strings.Repeat("a", many), api.ErrLong)
	wantAllBad(t, "</esi:a"+strings.Repeat(" ", many), api.ErrLong)
}
