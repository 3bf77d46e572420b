package lex

import (
	"regexp"
	"slices"
	"sort"
	"strings"
	"testing"

	"intarsia/api"
)

func outside(rest string) api.Lexer { return api.Lexer{Rest: rest} }

func inside(rest string) api.Lexer { return api.Lexer{Rest: rest, Inside: true} }

func wantRight(t *testing.T, x api.Lexer, want bool) {
	t.Helper()
	if got := Right(x); got != want {
		t.Errorf("Right(%.500q, inside %t) = %t; want %t", x.Rest, x.Inside, got, want)
	}
}

func wantFeed(t *testing.T, x api.Lexer, s string, behind api.Lexer, want ...api.Token) {
	t.Helper()
	got, l, bad := Feed(x, s)
	if bad != api.OK || got != behind || !isSame(l, want) {
		t.Errorf("Feed(%.500q, inside %t, %.500q) = %.500q, inside %t, %s, %d; want %.500q, inside %t, %s",
			x.Rest, x.Inside, s, got.Rest, got.Inside, told(l), bad, behind.Rest, behind.Inside, told(want))
	}
}

func wantFeedBad(t *testing.T, x api.Lexer, s string, want api.Errno) {
	t.Helper()
	if got, l, bad := Feed(x, s); bad != want || got != (api.Lexer{}) || len(l) > 0 {
		t.Errorf("Feed(%.500q, inside %t, %.500q) = %.500q, inside %t, %s, %d; want nothing, %d",
			x.Rest, x.Inside, s, got.Rest, got.Inside, told(l), bad, want)
	}
}

func wantEnd(t *testing.T, x api.Lexer, bad api.Errno, want ...api.Token) {
	t.Helper()
	if l, got := End(x); got != bad || !isSame(l, want) {
		t.Errorf("End(%.500q, inside %t) = %s, %d; want %s, %d", x.Rest, x.Inside, told(l), got, told(want), bad)
	}
}

// wantWrong wants that no call takes the lexer.
func wantWrong(t *testing.T, x api.Lexer) {
	t.Helper()
	wantRight(t, x, false)
	wantFeedBad(t, x, "", api.ErrArg)
	wantFeedBad(t, x, "a", api.ErrArg)
	wantFeedBad(t, x, "<esi:A>", api.ErrArg)
	wantEnd(t, x, api.ErrArg)
}

// wantText wants that the lexer may be, and that what it has may still be a text.
func wantText(t *testing.T, x api.Lexer) {
	t.Helper()
	wantRight(t, x, true)
	wantFeed(t, x, "", x)
	if x.Rest == "" {
		wantEnd(t, x, api.OK)
		return
	}
	wantEnd(t, x, api.OK, text(x.Rest))
	wantFeed(t, x, "\x00", api.Lexer{Inside: x.Inside}, text(x.Rest+"\x00"))
}

// wantCutTag wants that the lexer may be, and that what it has is a tag's beginning.
func wantCutTag(t *testing.T, x api.Lexer) {
	t.Helper()
	wantRight(t, x, true)
	wantFeed(t, x, "", x)
	wantEnd(t, x, api.ErrTag)
}

// P14.2: an empty Rest may be, and each beginning of a mark; of those of remarks just the one that can come.
func TestRightMarks(t *testing.T) {
	wantText(t, outside(""))
	wantText(t, inside(""))
	for n := 1; n < len("<esi:"); n++ {
		wantText(t, outside("<esi:"[:n]))
		wantText(t, inside("<esi:"[:n]))
	}
	for n := 1; n < len("</esi:"); n++ {
		wantText(t, outside("</esi:"[:n]))
		wantText(t, inside("</esi:"[:n]))
	}
	for n := 2; n < len("<!--esi"); n++ {
		wantText(t, outside("<!--esi"[:n]))
		wantWrong(t, inside("<!--esi"[:n]))
	}
	for n := 1; n < len("-->"); n++ {
		wantText(t, inside("-->"[:n]))
		wantWrong(t, outside("-->"[:n]))
	}
	for _, tag := range []string{"<esi:", "</esi:"} {
		wantCutTag(t, outside(tag))
		wantCutTag(t, inside(tag))
	}
	for _, mark := range []string{"<!--esi", "-->"} {
		wantWrong(t, outside(mark))
		wantWrong(t, inside(mark))
	}
}

// P14.2: what is no beginning of a mark may not be, nor what has more than one.
func TestRightOthers(t *testing.T) {
	for _, rest := range []string{
		"a", " ", "\x00", ">", "/", "!", "e", "x<", "x<esi:a", "<<", "<a", "<e<", "</<", "</x", "<!--esix", "<!x", "<esi;",
		"<ESI:", "<E", "---", "-->x", "--<", "->", "<!--esi<", "<!--esi<esi:a", "--><", "-<esi:a", "esi:a", "-a",
	} {
		wantWrong(t, outside(rest))
		wantWrong(t, inside(rest))
	}
}

// P14.2: beginnings of tags of each length may be, whole ones may not, nor what comes behind them.
func TestRightTags(t *testing.T) {
	for _, s := range []string{
		`<esi:include src="/x" alt="/y" />`, "<esi:a>", "<esi:a-b\t\r\n>", "</esi:a  >", `<esi:a b="" c="!--"/>`, "</esi:x>",
		`<esi:a b="--"/>`,
	} {
		for n := strings.Index(s, ":") + 1; n < len(s); n++ {
			wantCutTag(t, outside(s[:n]))
			wantCutTag(t, inside(s[:n]))
		}
		for _, behind := range []string{"", "x", "<", "-", "<esi:", "<esi:a", s} {
			wantWrong(t, outside(s+behind))
			wantWrong(t, inside(s+behind))
		}
	}
}

// P14.2: beginnings of tags with an error in them may not be.
func TestRightWrongTags(t *testing.T) {
	nine, _ := attrs(9)
	for _, rest := range []string{
		"<esi:A", "<esi: ", "<esi:>", "<esi:/", "<esi:a/ ", "<esi:a/b", "<esi:a<", `<esi:a"`, "<esi:a=", "<esi:a b ", "<esi:a b>", "<esi:a b/",
		"<esi:a b=c", "<esi:a b= ", `<esi:a b="<`, `<esi:a b=">`, `<esi:a b="c"d`, `<esi:a b="c""`, `<esi:a b="c"=`,
		`<esi:a b="" b=`, `<esi:a b="" b="`, `<esi:a b="" b="c`, `<esi:a b="" c="" b=`, "<esi:a" + nine, "<esi:a" + nine[:len(nine)-3],
		"</esi:A", "</esi: ", "</esi:>", "</esi:/", "</esi:a/", "</esi:a b", `</esi:a"`, "</esi:a <",
	} {
		wantWrong(t, outside(rest))
		wantWrong(t, inside(rest))
	}
	wantCutTag(t, outside("<esi:a"+nine[:len(nine)-4]))
	wantCutTag(t, outside(`<esi:a b="" b`))
}

// P14.2: a tag's beginning of 399 and 400 bytes may be, one of 401 may not.
func TestRightLong(t *testing.T) {
	for s := range sized(2 * api.MaxTag) {
		wantCutTag(t, outside(s[:api.MaxTag-1]))
		wantCutTag(t, inside(s[:api.MaxTag]))
		wantWrong(t, outside(s[:api.MaxTag+1]))
		wantWrong(t, inside(s[:api.MaxTag+2]))
		wantFeedBad(t, outside(s[:api.MaxTag]), s[api.MaxTag:api.MaxTag+1], api.ErrLong)
	}
	for s, token := range sized(api.MaxTag) {
		wantFeed(t, outside(s[:api.MaxTag-1]), ">", outside(""), token)
	}
}

// P14.2: an empty piece changes nothing, whatever the lexer has.
func TestFeedNothing(t *testing.T) {
	wantFeed(t, outside(""), "", outside(""))
	wantFeed(t, inside(""), "", inside(""))
	wantFeed(t, outside("<!-"), "", outside("<!-"))
	wantFeed(t, inside("--"), "", inside("--"))
	wantFeed(t, inside(`<esi:a b="`), "", inside(`<esi:a b="`))
}

// P14.2: tokens are told as far as they are settled, not joined, and none is empty.
func TestFeed(t *testing.T) {
	wantFeed(t, outside(""), "a", outside(""), text("a"))
	wantFeed(t, outside(""), "a<", outside("<"), text("a"))
	wantFeed(t, outside("<"), "a", outside(""), text("<a"))
	wantFeed(t, outside("<"), "<", outside("<"), text("<"))
	wantFeed(t, outside("<"), "!--esi", inside(""))
	wantFeed(t, outside("<!--es"), "ia--", inside("--"), text("a"))
	wantFeed(t, inside("--"), ">", outside(""))
	wantFeed(t, inside("--"), "->", outside(""), text("-"))
	wantFeed(t, inside("--"), "x", inside(""), text("--x"))
	wantFeed(t, inside("--"), "-", inside("--"), text("-"))
	wantFeed(t, inside("--"), "<", inside("<"), text("--"))
	wantFeed(t, inside("<"), "!--esi", inside(""), text("<!--esi"))
	wantFeed(t, outside("<"), "esi:a>", outside(""), opening("a"))
	wantFeed(t, outside("</esi:"), "a>b", outside(""), closing("a"), text("b"))
	wantFeed(t, outside(`<esi:a b="c`), `d"/`, outside(`<esi:a b="cd"/`))
	wantFeed(t, outside(`<esi:a b="cd"/`), ">", outside(""), empty("a", "b", "cd"))
	wantFeed(t, outside(""), "a<!--esib-->c", outside(""), text("a"), text("b"), text("c"))
	wantFeed(t, outside(""), "a<!--esi-->c", outside(""), text("a"), text("c"))
	wantFeed(t, outside(""), "<!--esi--><!--esi", inside(""))
	wantFeed(t, outside(""), "a<esi:b>c</esi:b>d<esi:e/>", outside(""), text("a"), opening("b"), text("c"), closing("b"), text("d"), empty("e"))
	wantFeed(t, outside(""), "a<esi:b><esi:c", outside("<esi:c"), text("a"), opening("b"))
	wantFeed(t, inside(""), "a-->b-->c-", outside(""), text("a"), text("b-->c-"))
	wantFeed(t, outside(""), "a-", outside(""), text("a-"))
	wantFeed(t, inside(""), "a-", inside("-"), text("a"))
	wantFeed(t, inside(""), "a<!", inside(""), text("a<!"))
	wantFeed(t, outside(""), "a<!", outside("<!"), text("a"))
}

// P14.2: beside an error there is nothing, whatever was parted ahead of it.
func TestFeedErrors(t *testing.T) {
	for _, x := range []api.Lexer{outside(""), inside(""), outside("<"), inside("<esi:a")} {
		wantFeedBad(t, x, "><esi:a>b<esi:A>", api.ErrTag)
		wantFeedBad(t, x, `><esi:a>b<esi:a b="" b="">`, api.ErrAttr)
		wantFeedBad(t, x, "><esi:a>b<esi:"+strings.Repeat("a", api.MaxTag), api.ErrLong)
	}
	wantFeedBad(t, outside("<esi:"), ">", api.ErrTag)
	wantFeedBad(t, inside("</esi:a"), "/", api.ErrTag)
	wantFeedBad(t, outside(`<esi:a b="" b`), "=", api.ErrAttr)
}

// P14.2: End tells what is left as a text, or nothing, or that a tag is not whole.
func TestEnd(t *testing.T) {
	wantEnd(t, outside(""), api.OK)
	wantEnd(t, inside(""), api.OK)
	wantEnd(t, outside("<"), api.OK, text("<"))
	wantEnd(t, inside("<"), api.OK, text("<"))
	wantEnd(t, outside("<esi"), api.OK, text("<esi"))
	wantEnd(t, outside("</esi"), api.OK, text("</esi"))
	wantEnd(t, outside("<!--es"), api.OK, text("<!--es"))
	wantEnd(t, inside("--"), api.OK, text("--"))
	wantEnd(t, outside("<esi:"), api.ErrTag)
	wantEnd(t, outside("</esi:"), api.ErrTag)
	wantEnd(t, inside("<esi:a b"), api.ErrTag)
	wantEnd(t, inside("</esi:a "), api.ErrTag)
	wantEnd(t, outside("a"), api.ErrArg)
	wantEnd(t, outside("--"), api.ErrArg)
	wantEnd(t, inside("<!--es"), api.ErrArg)
	wantEnd(t, outside("<!--esi"), api.ErrArg)
	wantEnd(t, outside("<esi:a>"), api.ErrArg)
	wantEnd(t, outside("<esi:A"), api.ErrArg)
}

const modelBlank = `[ \t\n\r]`

var (
	modelOpen   = regexp.MustCompile(`\A<esi:([a-z-]+)((?:` + modelBlank + `+[a-z-]+="[^"<>]*")*)` + modelBlank + `*(/?)>`)
	modelClose  = regexp.MustCompile(`\A</esi:([a-z-]+)` + modelBlank + `*>`)
	modelAttr   = regexp.MustCompile(`([a-z-]+)="([^"<>]*)"`)
	modelNamed  = regexp.MustCompile(`([a-z-]+)=(?:"[^"<>]*"?)?`)
	modelOpens  = regexp.MustCompile(`\A<esi:(?:[a-z-]*|[a-z-]+(?:` + modelBlank + `+[a-z-]+="[^"<>]*")*(?:` + modelBlank + `*/?|` + modelBlank + `+[a-z-]+(?:=(?:"[^"<>]*)?)?))\z`)
	modelCloses = regexp.MustCompile(`\A</esi:(?:[a-z-]*|[a-z-]+` + modelBlank + `*)\z`)
)

// modelWhole is the tag that s begins with, if it is a whole one of any size, with any attributes.
func modelWhole(s string) (api.Token, int) {
	if m := modelClose.FindStringSubmatch(s); m != nil {
		return closing(m[1]), len(m[0])
	}
	m := modelOpen.FindStringSubmatch(s)
	if m == nil {
		return api.Token{}, 0
	}
	t := opening(m[1])
	if m[3] == "/" {
		t.Kind = api.TEmpty
	}
	for _, a := range modelAttr.FindAllStringSubmatch(m[2], -1) {
		t.Attrs = append(t.Attrs, api.Pair{Name: a[1], Value: a[2]})
	}
	return t, len(m[0])
}

// modelError is what is wrong with a tag's beginning. Once something is, something is with each longer one.
func modelError(beginning string) api.Errno {
	if len(beginning) > 400 {
		return api.ErrLong
	}
	if _, whole := modelWhole(beginning); whole == 0 && !modelOpens.MatchString(beginning) && !modelCloses.MatchString(beginning) {
		return api.ErrTag
	}
	names := map[string]bool{}
	named := modelNamed.FindAllStringSubmatch(beginning, -1)
	for _, a := range named {
		names[a[1]] = true
	}
	if len(named) > 8 || len(names) < len(named) {
		return api.ErrAttr
	}
	return api.OK
}

// modelTag reads the tag that s begins with: its size is 0, if it is not whole.
func modelTag(s string) (api.Token, int, api.Errno) {
	t, size := modelWhole(s)
	end := len(s)
	if size > 0 {
		end = size
	}
	isBad := func(n int) bool { return modelError(s[:n]) != api.OK }
	if n := sort.Search(min(end, 401)+1, func(n int) bool { return n > 5 && isBad(n) }); n <= end {
		return api.Token{}, 0, modelError(s[:n])
	}
	return t, size, api.OK
}

func modelMarks(x api.Lexer) []string {
	if x.Inside {
		return []string{"<esi:", "</esi:", "-->"}
	}
	return []string{"<esi:", "</esi:", "<!--esi"}
}

func isModelBeginning(x api.Lexer) bool {
	return x.Rest == "" || slices.ContainsFunc(modelMarks(x), func(mark string) bool {
		return x.Rest != mark && strings.HasPrefix(mark, x.Rest)
	})
}

// modelPart parts what a lexer has by whole marks, and then looks for the first place from which on it has to wait.
func modelPart(x api.Lexer) (api.Lexer, []api.Token, api.Errno) {
	var l []api.Token
	add := func(s string) {
		if s != "" {
			l = append(l, text(s))
		}
	}
	for {
		place, mark := len(x.Rest), ""
		for _, m := range modelMarks(x) {
			if at := strings.Index(x.Rest, m); at >= 0 && at < place {
				place, mark = at, m
			}
		}
		if mark == "" {
			at := 0
			for !isModelBeginning(api.Lexer{Rest: x.Rest[at:], Inside: x.Inside}) {
				at++
			}
			add(x.Rest[:at])
			return api.Lexer{Rest: x.Rest[at:], Inside: x.Inside}, l, api.OK
		}
		add(x.Rest[:place])
		x.Rest = x.Rest[place:]
		if mark == "-->" || mark == "<!--esi" {
			x = api.Lexer{Rest: x.Rest[len(mark):], Inside: !x.Inside}
			continue
		}
		t, size, bad := modelTag(x.Rest)
		if bad != api.OK {
			return api.Lexer{}, nil, bad
		}
		if size == 0 {
			return x, l, api.OK
		}
		l = append(l, t)
		x.Rest = x.Rest[size:]
	}
}

func isModelRight(x api.Lexer) bool {
	if isModelBeginning(x) {
		return true
	}
	if !strings.HasPrefix(x.Rest, "<esi:") && !strings.HasPrefix(x.Rest, "</esi:") {
		return false
	}
	_, size, bad := modelTag(x.Rest)
	return size == 0 && bad == api.OK
}

// wantAsModel wants of what is handed in, from within a remark and from without, what the model tells.
func wantAsModel(t *testing.T, s string) {
	t.Helper()
	for _, x := range []api.Lexer{outside(""), inside("")} {
		behind, want, bad := modelPart(api.Lexer{Rest: s, Inside: x.Inside})
		if bad != api.OK {
			wantFeedBad(t, x, s, bad)
			continue
		}
		wantFeed(t, x, s, behind, want...)
		wantRight(t, behind, true)
	}
	for _, x := range []api.Lexer{outside(s), inside(s)} {
		wantRight(t, x, isModelRight(x))
	}
}

func eachByte(s string) []string {
	var pieces []string
	for i := range len(s) {
		pieces = append(pieces, s[i:i+1])
	}
	return pieces
}

// wantAnyPieces wants a page in pieces of one byte, and in two of any sizes, to have what it has at once.
func wantAnyPieces(t *testing.T, s string) {
	t.Helper()
	wantPieces(t, s, eachByte(s)...)
	for n := range len(s) + 1 {
		wantPieces(t, s, s[:n], s[n:])
	}
}

// wantPieces wants of pieces the same tokens, or the same error, as at once, and the same lexer behind each as at once up to there.
func wantPieces(t *testing.T, s string, pieces ...string) {
	t.Helper()
	want, wantBad := All(s)
	got, gotBad := allPieces(t, pieces)
	if gotBad != wantBad || !isSame(got, want) {
		t.Errorf("pieces %.500q = %s, %d; want %s, %d", pieces, told(got), gotBad, told(want), wantBad)
	}
}

func allPieces(t *testing.T, pieces []string) ([]api.Token, api.Errno) {
	t.Helper()
	var x api.Lexer
	var l []api.Token
	var ahead string
	for _, piece := range pieces {
		ahead += piece
		y, more, bad := Feed(x, piece)
		atOnce, _, atOnceBad := Feed(api.Lexer{}, ahead)
		if y != atOnce || bad != atOnceBad {
			t.Errorf("behind pieces of %.500q: %.500q, inside %t, %d; at once %.500q, inside %t, %d",
				ahead, y.Rest, y.Inside, bad, atOnce.Rest, atOnce.Inside, atOnceBad)
		}
		if bad != api.OK {
			return nil, bad
		}
		if slices.ContainsFunc(more, func(t api.Token) bool { return t.Text == "" }) {
			t.Errorf("behind pieces of %.500q: %s has an empty text", ahead, told(more))
		}
		x, l = y, append(l, more...)
	}
	left, bad := End(x)
	if bad != api.OK {
		return nil, bad
	}
	return Join(append(l, left...)), api.OK
}

func pages() []string {
	nine, _ := attrs(9)
	eight, _ := attrs(8)
	return []string{
		"", "a", "a-b<c", "abc", `a<esi:include src="/x"/>b`, "<!--esi <esi:remove>-->",
		`a<esi:include src="/x" alt="/y"/>b<!--esi <esi:remove>c-->d--></esi:remove>`,
		"<<esi:a><!-<esi:a>--->", "<!--esi--->--><!--esi<!--esi-->x", "<!--es<!--esi--<esi:a \t>",
		"<esi:a" + eight + " / >", "<esi:a" + eight + " />x", "<esi:a" + nine + ">", `<esi:a b="c" d="e" b="f">`, "x<esi:a b>y", "x</esi:a\n\r\t >y</esi:b c>",
		`x<esi:when test="$(A{b|'c'})==1">`, "<esi:try><esi:attempt>\xff</esi:attempt></esi:try>", "<esi:a", "</esi:b ", "x<", "x<!--es", "<!--esix--", "x<esi",
	}
}

// P14.1, P14.2: any byte at any place of a page, put in and in place of another, does what the chapter's words say.
func TestAnyByte(t *testing.T) {
	for _, s := range pages() {
		wantAsModel(t, s)
		for at := range len(s) {
			for _, b := range []byte("<>!-/esi:=\"' \t\r\nazAZ`{_.,\x00\x0b\x7f\x80\xff") {
				wantAsModel(t, s[:at]+string([]byte{b})+s[at:])
				wantAsModel(t, s[:at]+string([]byte{b})+s[at+1:])
			}
			wantAsModel(t, s[:at])
			wantAsModel(t, s[at:])
		}
	}
}

// P14.1, P14.2: all short texts of parts of marks and tags do what the chapter's words say.
func TestAllShort(t *testing.T) {
	for _, s := range joinedParts([]string{"<", "!", "-", ">", "esi", "/", ":a"}, 6) {
		wantAsModel(t, s)
	}
	for _, s := range joinedParts([]string{"<esi:a", "</esi:a", "<!--esi", "-->", ">", " ", "x", "/"}, 4) {
		wantAsModel(t, s)
	}
	for _, s := range joinedParts([]string{" ", "b", `="`, `"`, "=", "/", ">", "<", "A"}, 4) {
		wantAsModel(t, "<esi:a"+s)
		wantAsModel(t, `<esi:a b="c"`+s)
		wantAsModel(t, `<esi:a c="" b="" `+s)
		wantAsModel(t, "</esi:a"+s)
	}
}

// P14.1, P14.2: tags of about 400 bytes do what the chapter's words say.
func TestAllAbout400(t *testing.T) {
	for size := api.MaxTag - 3; size <= api.MaxTag+3; size++ {
		for s := range sized(size) {
			wantAsModel(t, s)
			for n := api.MaxTag - 3; n <= size; n++ {
				for _, behind := range []string{"", ">", "/", "/>", `"`, `">`, "<", " ", "=", "a", "A"} {
					wantAsModel(t, s[:n]+behind)
				}
			}
		}
	}
}

// P14.3: a page in any pieces has the same tokens, joined, or the same error, as at once.
func TestPieces(t *testing.T) {
	for _, s := range pages() {
		wantAnyPieces(t, s)
		wantAnyPieces(t, s+s)
		for size := 2; size < 8; size++ {
			var pieces []string
			for piece := range slices.Chunk([]byte(s), size) {
				pieces = append(pieces, "", string(piece), "")
			}
			wantPieces(t, s, pieces...)
		}
	}
	for _, s := range joinedParts([]string{"<", "!-", "-", ">", "esi", "/", ":a"}, 4) {
		wantAnyPieces(t, s)
		wantAnyPieces(t, "<!--esi"+s)
	}
	for _, s := range joinedParts([]string{" ", "b", `="`, `"`, "/", ">"}, 4) {
		wantAnyPieces(t, "<esi:a"+s)
	}
}

// P14.3: so has one with tags of about 400 bytes.
func TestPiecesLong(t *testing.T) {
	for size := api.MaxTag - 1; size <= api.MaxTag+1; size++ {
		for s := range sized(size) {
			wantPieces(t, s, eachByte(s)...)
			for _, n := range []int{1, 4, 5, 6, 7, 200, api.MaxTag - 2, api.MaxTag - 1, api.MaxTag} {
				n = min(n, len(s))
				wantPieces(t, s+"x", s[:n], s[n:]+"x")
			}
		}
	}
}

// P14.3: text without < and - is one token.
func TestTextAtOnce(t *testing.T) {
	var all []byte
	for n := range 256 {
		if n != '<' && n != '-' {
			all = append(all, byte(n))
			wantFeed(t, inside(""), string([]byte{byte(n)}), inside(""), text(string([]byte{byte(n)})))
		}
	}
	s := string(all)
	wantAll(t, s, text(s))
	wantFeed(t, outside(""), s, outside(""), text(s))
	wantFeed(t, inside(""), s+s, inside(""), text(s+s))
}

// R1: a call hangs on nothing that came ahead of it.
func TestKeepsNothing(t *testing.T) {
	for range 2 {
		wantFeed(t, outside(""), "a<esi:b", outside("<esi:b"), text("a"))
		wantFeedBad(t, outside("<esi:b"), "A", api.ErrTag)
		wantFeed(t, outside("<esi:b"), ">", outside(""), opening("b"))
		wantFeed(t, outside(""), ">", outside(""), text(">"))
	}
}
