package uri

import (
	"fmt"
	"math"
	"regexp"
	"strconv"
	"strings"
	"testing"

	"intarsia/api"
)

// The bytes are written out, so that one too many or too few is found.
const (
	hostBytes    = "abcdefghijklmnopqrstuvwxyz0123456789-."
	addressBytes = "!$%&'()*+,-./0123456789:;=?@ABCDEFGHIJKLMNOPQRSTUVWXYZ[]_abcdefghijklmnopqrstuvwxyz~"
)

// long is far beyond any limit.
const long = 1 << 20

func address(host string, port int, path string) api.Uri {
	return api.Uri{Abs: true, Host: host, Port: port, Path: path}
}

func reference(path string) api.Uri { return api.Uri{Path: path} }

func asking(u api.Uri, query string) api.Uri {
	u.Asks, u.Query = true, query
	return u
}

// told cuts an address short, so that a fault's report can be read.
func told(u api.Uri) string {
	return fmt.Sprintf("{%t %.80q %d %.80q %t %.80q}", u.Abs, u.Host, u.Port, u.Path, u.Asks, u.Query)
}

func fill(count int) string { return strings.Repeat("x", count) }

// texts are all of at most so many of the letters, the empty one among them.
func texts(letters string, most int) []string {
	all := []string{""}
	from := 0
	for range most {
		end := len(all)
		for _, s := range all[from:end] {
			for i := range len(letters) {
				all = append(all, s+letters[i:i+1])
			}
		}
		from = end
	}
	return all
}

// rights are addresses and references that may be, at the document's edges, each as it is written.
func rights() map[string]api.Uri {
	return map[string]api.Uri{
		"http://h/":                             address("h", 0, "/"),
		"http://h:1/":                           address("h", 1, "/"),
		"http://h:80/a/b":                       address("h", 80, "/a/b"),
		"http://h:10000/":                       address("h", 10000, "/"),
		"http://h:65535/":                       address("h", 65535, "/"),
		"http://0/":                             address("0", 0, "/"),
		"http://12345/":                         address("12345", 0, "/"),
		"http://-.a-z.0-9./":                    address("-.a-z.0-9.", 0, "/"),
		"http://h/?":                            asking(address("h", 0, "/"), ""),
		"http://h:8080/x/y?q=1":                 asking(address("h", 8080, "/x/y"), "q=1"),
		"http://h/?a?b/c:d":                     asking(address("h", 0, "/"), "a?b/c:d"),
		"http://h//":                            address("h", 0, "//"),
		"http://h//x:y//":                       address("h", 0, "//x:y//"),
		"http://h/a/../b/./c":                   address("h", 0, "/a/../b/./c"),
		"http://h/http://k/":                    address("h", 0, "/http://k/"),
		"http://h/?http://k/":                   asking(address("h", 0, "/"), "http://k/"),
		"http://" + fill(99) + "/":              address(fill(99), 0, "/"),
		"http://" + fill(100) + "/":             address(fill(100), 0, "/"),
		"http://h/" + fill(490):                 address("h", 0, "/"+fill(490)),
		"http://h/" + fill(491):                 address("h", 0, "/"+fill(491)),
		"http://h:65535/" + fill(485):           address("h", 65535, "/"+fill(485)),
		"http://h:1/?" + fill(488):              asking(address("h", 1, "/"), fill(488)),
		"http://h/" + fill(490) + "?":           asking(address("h", 0, "/"+fill(490)), ""),
		"http://" + fill(100) + "/" + fill(392): address(fill(100), 0, "/"+fill(392)),
		"":                                      {},
		"?":                                     asking(reference(""), ""),
		"?q":                                    asking(reference(""), "q"),
		"?a?b":                                  asking(reference(""), "a?b"),
		"?//a:b":                                asking(reference(""), "//a:b"),
		"/":                                     reference("/"),
		"/?":                                    asking(reference("/"), ""),
		"/a//b":                                 reference("/a//b"),
		"/:":                                    reference("/:"),
		"/a:b":                                  reference("/a:b"),
		"a":                                     reference("a"),
		"a?q":                                   asking(reference("a"), "q"),
		"a?b:c":                                 asking(reference("a"), "b:c"),
		"a/b:c":                                 reference("a/b:c"),
		"a//b":                                  reference("a//b"),
		"a/http://h/":                           reference("a/http://h/"),
		"../z":                                  reference("../z"),
		"A/B":                                   reference("A/B"),
		"http":                                  reference("http"),
		"http//h":                               reference("http//h"),
		fill(499):                               reference(fill(499)),
		fill(500):                               reference(fill(500)),
		fill(499) + "?":                         asking(reference(fill(499)), ""),
		"?" + fill(499):                         asking(reference(""), fill(499)),
		"/" + fill(200) + "?" + fill(298):       asking(reference("/"+fill(200)), fill(298)),
	}
}

// wrongs are just beyond, each by one of its parts.
func wrongs() []api.Uri {
	return []api.Uri{
		address("", 0, "/"),
		address(fill(101), 0, "/"),
		address(fill(long), 0, "/"),
		address("H", 0, "/"),
		address("h:", 0, "/"),
		address("h:1", 0, "/"),
		address("h/", 0, "/"),
		address("h_", 0, "/"),
		address("h h", 0, "/"),
		address("h", -1, "/"),
		address("h", 65536, "/"),
		address("h", math.MinInt, "/"),
		address("h", math.MaxInt, "/"),
		address("h", 65536+80, "/"),
		address("h", 0, ""),
		address("h", 0, "x"),
		address("h", 0, ":/"),
		address("h", 0, "/a b"),
		address("h", 0, "/?"),
		address("h", 0, "/a?q"),
		asking(address("h", 0, ""), "q"),
		asking(address("h", 0, "/a?"), "q"),
		asking(address("h", 0, "/"), "#"),
		asking(address("h", 0, "/"), "a b"),
		{Abs: true, Host: "h", Path: "/", Query: "q"},
		address("h", 0, "/"+fill(492)),
		address("h", 1, "/"+fill(490)),
		address("h", 65535, "/"+fill(486)),
		asking(address("h", 0, "/"+fill(491)), ""),
		asking(address("h", 0, "/"), fill(491)),
		address(fill(100), 0, "/"+fill(393)),
		address("h", 0, "/"+fill(long)),
		asking(address("h", 0, "/"), fill(long)),
		{Host: "h"},
		{Host: "h", Path: "/"},
		{Port: 1},
		{Port: -1},
		{Port: 80, Path: "/"},
		{Host: "h", Port: 80, Path: "/"},
		reference("//"),
		reference("//h"),
		reference("//h/x"),
		reference("///"),
		reference(":"),
		reference("a:"),
		reference("a:b"),
		reference(":a"),
		reference("a:b/c"),
		reference("a:/"),
		reference("http:"),
		reference("http://h/"),
		reference("a b"),
		reference("a?"),
		reference("?"),
		reference("/a?q"),
		asking(reference("a?"), "q"),
		asking(reference("a"), "\x00"),
		{Query: "q"},
		{Path: "/", Query: "q"},
		reference(fill(501)),
		asking(reference(fill(500)), ""),
		asking(reference(""), fill(500)),
		asking(reference("/"+fill(200)), fill(299)),
		reference(fill(long)),
	}
}

// wantRight asks Right and Print, which hang together.
func wantRight(t *testing.T, u api.Uri, s string) {
	t.Helper()
	if !Right(u) {
		t.Errorf("Right(%s) = false", told(u))
	}
	if got, bad := Print(u); got != s || bad != api.OK {
		t.Errorf("Print(%s) = %.80q, %d; want %.80q", told(u), got, bad, s)
	}
}

func wantWrong(t *testing.T, u api.Uri) {
	t.Helper()
	if Right(u) {
		t.Errorf("Right(%s) = true", told(u))
	}
	if got, bad := Print(u); got != "" || bad != api.ErrArg {
		t.Errorf("Print(%s) = %.80q, %d; want nothing, ErrArg", told(u), got, bad)
	}
}

func wantParse(t *testing.T, s string, want api.Uri, wantBad api.Errno) {
	t.Helper()
	if got, bad := Parse(s); got != want || bad != wantBad {
		t.Errorf("Parse(%.80q of %d bytes) = %s, %d; want %s, %d", s, len(s), told(got), bad, told(want), wantBad)
	}
}

func wantClean(t *testing.T, path, want string) {
	t.Helper()
	if got := Clean(path); got != want {
		t.Errorf("Clean(%.80q) = %.80q; want %.80q", path, got, want)
	}
}

func wantResolve(t *testing.T, base, u, want api.Uri, wantBad api.Errno) {
	t.Helper()
	if got, bad := Resolve(base, u); got != want || bad != wantBad {
		t.Errorf("Resolve(%s, %s) = %s, %d; want %s, %d", told(base), told(u), told(got), bad, told(want), wantBad)
	}
}

// P5.1: what may be, by each of its parts.
func TestRightAndPrint(t *testing.T) {
	for s, u := range rights() {
		if len(s) > 500 {
			t.Fatalf("%.80q is too long for this test", s)
		}
		wantRight(t, u, s)
	}
	for _, u := range wrongs() {
		wantWrong(t, u)
	}
}

// P5.1: each byte of a Host, a Path and a Query, at its beginning, within and at its end.
func TestRightBytes(t *testing.T) {
	for i := range 256 {
		c := string([]byte{byte(i)})
		for _, s := range []string{c, c + "ab", "a" + c + "b", "ab" + c} {
			check := func(may bool, u api.Uri, written string) {
				if may {
					wantRight(t, u, written)
				} else {
					wantWrong(t, u)
				}
			}
			inPath := strings.Contains(addressBytes, c) && c != "?"
			check(strings.Contains(hostBytes, c), address(s, 0, "/"), "http://"+s+"/")
			check(inPath, address("h", 0, "/"+s), "http://h/"+s)
			check(inPath, reference("/a"+s), "/a"+s)
			check(inPath && c != ":", reference("a"+s), "a"+s)
			check(strings.Contains(addressBytes, c), asking(address("h", 0, "/"), s), "http://h/?"+s)
			check(strings.Contains(addressBytes, c), asking(reference("a"), s), "a?"+s)
		}
	}
}

// P5.1: each Port, and those just beyond.
func TestRightPorts(t *testing.T) {
	for port := range 65536 {
		want := "http://h:" + strconv.Itoa(port) + "/"
		if port == 0 {
			want = "http://h/"
		}
		wantRight(t, address("h", port, "/"), want)
	}
	for _, port := range []int{-1, -80, -65536, 65536, 65537, 99999, 65536 + 80} {
		wantWrong(t, address("h", port, "/"))
	}
}

// P5.1: what is read, where it is not as it is written.
func TestParse(t *testing.T) {
	for _, s := range []string{"http://h", "HTTP://h", "Http://H", "hTTp://h/", "HTTP://H/"} {
		wantParse(t, s, address("h", 0, "/"), api.OK)
	}
	for _, s := range []string{"http://h:8080", "HTTP://H:8080/", "http://h:08080/"} {
		wantParse(t, s, address("h", 8080, "/"), api.OK)
	}
	for _, s := range []string{"http://h:7", "http://h:07", "http://h:007", "http://h:0007/", "http://h:00007"} {
		wantParse(t, s, address("h", 7, "/"), api.OK)
	}
	wantParse(t, "HTTP://Host:8080/x/y?q=1", asking(address("host", 8080, "/x/y"), "q=1"), api.OK)
	wantParse(t, "http://ABCDEFGHIJKLMNOPQRSTUVWXYZ/ABC?DEF", asking(address("abcdefghijklmnopqrstuvwxyz", 0, "/ABC"), "DEF"), api.OK)
	wantParse(t, "http://h?", asking(address("h", 0, "/"), ""), api.OK)
	wantParse(t, "http://h?q", asking(address("h", 0, "/"), "q"), api.OK)
	wantParse(t, "http://h:80?q/r?s:9", asking(address("h", 80, "/"), "q/r?s:9"), api.OK)
	wantParse(t, "http://h/:80", address("h", 0, "/:80"), api.OK)
	wantParse(t, "http://h?:80", asking(address("h", 0, "/"), ":80"), api.OK)
	wantParse(t, "http://1.2:65535", address("1.2", 65535, "/"), api.OK)
	wantParse(t, "HTTP", reference("HTTP"), api.OK)
}

// P5.1: what is not read.
func TestParseWrong(t *testing.T) {
	for _, s := range []string{
		"http://", "HTTP://", "http:///", "http://?", "http:///x", "http://?q", "http://:80", "http://:80/", "http://:/",
		"http://h:", "http://h:/", "http://h:?", "http://h:0", "http://h:0/", "http://h:00", "http://h:00000/", "http://h:000000",
		"http://h:65536", "http://h:99999/", "http://h:000080/", "http://h:000001", "http://h:123456", "http://h:1000000000000000000000",
		"http://h:1:2", "http://h:1:/", "http://h::1", "http://h:-1", "http://h:+1", "http://h:1a", "http://h:a1", "http://h: 1", "http://h:1 ", "http://h:0x1",
		"http://h:80x/", "http://u@h/", "http://[::1]/", "http://h_/", "http://h%41/", "http://h /", "http:// h/", "http://h\x00/", "http://h\\/",
		"http://é/", "http://É/", "http://\u212a/", "http://\xff/", "http://h/\u212a", "http://h/\xff",
		"http://h/ ", "http://h/\x7f", "http://h/#", "http://h/?#", "http://h?<", "http://h/{a}", "http://h/a|b", "http://h/a^b", "http://h/\x60", "http://h/\\", "http://h/\"", "http://h/>", "http://h/\r\n",
		"http:", "http:/", "http:/h", "http:h", "HTTP:/h/", "https://h/", "HTTPS://h", "ftp://h/", " http://h/", "/ http://h/", "xhttp://h/",
		"a:b", ":", ":/", "a:", "a:b/c", "mailto:a", "a:?q", "//", "//h", "//h/x", "//?q", "///", "/a b", " ", "a ", "?a b", "#", "a#b", "/\x00", "/é", "\"", "/<x>",
		"http://" + fill(101), "http://" + fill(101) + "/", "http://" + fill(101) + ":80/",
	} {
		wantParse(t, s, api.Uri{}, api.ErrUri)
	}
	for i := range 256 {
		c := string([]byte{byte(i)})
		if !strings.Contains(addressBytes, c) {
			for _, s := range []string{"http://h" + c + "/", "http://h/" + c, "http://h/a" + c + "b?q", "http://h/?" + c, "http://h?a" + c + "b", c, "/" + c, "a" + c + "/b", "?" + c} {
				wantParse(t, s, api.Uri{}, api.ErrUri)
			}
		}
	}
}

// P5.1: how long a text may be, and that this comes first.
func TestParseLength(t *testing.T) {
	wantParse(t, "http://h/"+fill(491), address("h", 0, "/"+fill(491)), api.OK)
	wantParse(t, "http://h/"+fill(492), api.Uri{}, api.ErrLong)
	wantParse(t, fill(500), reference(fill(500)), api.OK)
	wantParse(t, fill(501), api.Uri{}, api.ErrLong)
	wantParse(t, "?"+fill(499), asking(reference(""), fill(499)), api.OK)
	wantParse(t, "?"+fill(500), api.Uri{}, api.ErrLong)
	// It has at most 500 bytes, but not once it is written with its Path.
	wantParse(t, "http://h?"+fill(490), asking(address("h", 0, "/"), fill(490)), api.OK)
	wantParse(t, "http://h?"+fill(491), api.Uri{}, api.ErrUri)
	// It is shorter once it is written, but the text is too long.
	wantParse(t, "http://h:00001/"+fill(485), address("h", 1, "/"+fill(485)), api.OK)
	wantParse(t, "http://h:00001/"+fill(486), api.Uri{}, api.ErrLong)
	for _, s := range []string{" ", "a:", "//", "http://", "http://h:0/", "http:// /", "\x00"} {
		wantParse(t, s+fill(500-len(s)), api.Uri{}, api.ErrUri)
		wantParse(t, s+fill(501-len(s)), api.Uri{}, api.ErrLong)
		wantParse(t, s+fill(long), api.Uri{}, api.ErrLong)
	}
}

var (
	addressForm   = regexp.MustCompile(`^(?:http|HTTP|Http)://([A-Za-z0-9.-]{1,100})(?::([0-9]{1,5}))?(/[^?]*)?(\?(.*))?$`)
	referenceForm = regexp.MustCompile(`^([^:/?]*(?:/[^?]*)?)(\?(.*))?$`)
)

// readAgain tells by the library's forms what a text of bytes of addresses is read as.
func readAgain(s string) (api.Uri, api.Errno) {
	if f := addressForm.FindStringSubmatch(s); f != nil {
		u := api.Uri{Abs: true, Host: strings.ToLower(f[1]), Path: f[3], Asks: f[4] != "", Query: f[5]}
		u.Port, _ = strconv.Atoi(f[2])
		if f[3] == "" {
			u.Path = "/"
		}
		if f[2] == "" || 1 <= u.Port && u.Port <= 65535 {
			return u, api.OK
		}
		return api.Uri{}, api.ErrUri
	}
	if f := referenceForm.FindStringSubmatch(s); f != nil && !strings.HasPrefix(s, "//") {
		return api.Uri{Path: f[1], Asks: f[2] != "", Query: f[3]}, api.OK
	}
	return api.Uri{}, api.ErrUri
}

// P5.1 and P5.4: all short texts of the bytes that matter, behind each beginning; what is read of them is written and read again.
func TestParseOfAllShortTexts(t *testing.T) {
	for _, begin := range []string{"", "http://", "HTTP://h", "Http://h:655", "http://h:1234"} {
		for _, end := range texts("a:/?.06", 5) {
			s := begin + end
			want, wantBad := readAgain(s)
			wantParse(t, s, want, wantBad)
			if wantBad == api.OK {
				again, _ := Print(want)
				wantParse(t, again, want, api.OK)
			}
		}
	}
}

// P5.4: what is written is read again.
func TestWrittenIsReadAgain(t *testing.T) {
	for s, u := range rights() {
		wantParse(t, s, u, api.OK)
	}
	for port := range 65536 {
		u := address("h.x", port, "/")
		s, _ := Print(u)
		wantParse(t, s, u, api.OK)
	}
	every := strings.ReplaceAll(addressBytes, "?", "")
	for _, u := range []api.Uri{address(hostBytes, 1, "/"+every), reference("/" + every), reference("a/" + every)} {
		for _, v := range []api.Uri{u, asking(u, ""), asking(u, addressBytes)} {
			s, bad := Print(v)
			if bad != api.OK {
				t.Errorf("Print(%s) tells %d", told(v), bad)
			}
			wantParse(t, s, v, api.OK)
		}
	}
}

// P5.2: each of its cases, at the beginning of a path, within it and at its end.
func TestClean(t *testing.T) {
	for path, want := range map[string]string{
		"/a/b/../c/./d": "/a/c/d",
		"":              "", "/": "/", "a": "a", "/a": "/a", "a/": "a/", "/a/": "/a/", "a/b": "a/b", "//": "//", "/a//b": "/a//b", "///": "///",
		"../": "", "./": "", "../x": "x", "./x": "x", "../../x": "x", ".././../x": "x", "..//x": "/x", ".//x": "/x", ".//": "/", "../x/": "x/", "../..": "", "./.": "", "../.": "", "./..": "",
		"/./": "/", "/./x": "/x", "/a/./b": "/a/b", "/a/./": "/a/", "a/./b": "a/b", "/.//x": "//x", "/././x": "/x", "//./x": "//x",
		"/.": "/", "/a/.": "/a/", "a/.": "a/", "//.": "//", "/./.": "/", "/a/b/.": "/a/b/",
		"/../": "/", "/../x": "/x", "/../../x": "/x", "/a/../b": "/b", "/a/b/../c": "/a/c", "/a/b/../../c": "/c", "/a/../../b": "/b", "a/../b": "/b", "a/b/../c": "a/c", "a/b/../../c": "/c", "a/../../b": "/b", "/a/../": "/", "a/../": "/", "/a//../b": "/a/b", "//../x": "/x", "/..//x": "//x", "a//../b": "a/b",
		"/..": "/", "/a/..": "/", "/a/b/..": "/a/", "a/..": "/", "a/b/..": "a/", "//..": "/", "/a//..": "/a/", "/../..": "/", "/./..": "/", "/../.": "/", "/a/./..": "/",
		".": "", "..": "",
		"...": "...", "/...": "/...", ".../x": ".../x", "/.../x": "/.../x", "....": "....", "/a/.../b": "/a/.../b", "/.../..": "/",
		".a": ".a", "..a": "..a", "/.a": "/.a", "/..a": "/..a", "a.": "a.", "a..": "a..", "/a./b": "/a./b", "/a../b": "/a../b", "/a/..b/.c/d..": "/a/..b/.c/d..", "/a./../b": "/b", "/..a/..": "/", "a../..": "/",
		"/a?/../b": "/b", "/a/..?": "/a/..?", "/%2e%2e/a": "/%2e%2e/a", "/é/../\xff/\x00": "/\xff/\x00", "/a\\..\\b": "/a\\..\\b",
	} {
		wantClean(t, path, want)
	}
}

var (
	aheadForm = regexp.MustCompile(`^(?:\.\.?/)*`)
	stepForm  = regexp.MustCompile(`(?s)/[^/]*|^[^/]+`)
)

// cleaned is a path's steps, each with the `/` ahead of it, without those that stay or go back and those that are gone back over.
func cleaned(path string) string {
	path = path[len(aheadForm.FindString(path)):]
	var kept []string
	steps := stepForm.FindAllString(path, -1)
	for i, step := range steps {
		switch strings.TrimPrefix(step, "/") {
		default:
			kept = append(kept, step)
			continue
		case "..":
			kept = kept[:max(len(kept)-1, 0)]
		case ".":
		}
		if i == len(steps)-1 && strings.HasPrefix(step, "/") {
			kept = append(kept, "/")
		}
	}
	return strings.Join(kept, "")
}

// P5.2 and P5.4: all short paths; what was cleaned has no step that stays or goes back, and is left as it is.
func TestCleanOfAllShortPaths(t *testing.T) {
	for _, path := range texts("/.a", 10) {
		want := cleaned(path)
		wantClean(t, path, want)
		wantClean(t, want, want)
		for _, step := range strings.Split(Clean(path), "/") {
			if step == "." || step == ".." {
				t.Errorf("Clean(%q) = %q has the step %q", path, Clean(path), step)
			}
		}
		if strings.HasPrefix(path, "/") && !strings.HasPrefix(Clean(path), "/") {
			t.Errorf("Clean(%q) = %q begins with no /", path, Clean(path))
		}
	}
}

// P5.2 and P1: paths far longer than those of addresses, which end soon.
func TestCleanOfLongPaths(t *testing.T) {
	deep := strings.Repeat("/a", long)
	wantClean(t, deep, deep)
	wantClean(t, deep+strings.Repeat("/..", long), "/")
	wantClean(t, deep+strings.Repeat("/..", long-1), "/a/")
	wantClean(t, strings.Repeat("/..", long), "/")
	wantClean(t, strings.Repeat("/.", long)+"/x", "/x")
	wantClean(t, strings.Repeat("../", long)+"x", "x")
	wantClean(t, strings.Repeat("./", long), "")
	wantClean(t, strings.Repeat("/a/../b/.", long), strings.Repeat("/b", long)+"/")
	wantClean(t, strings.Repeat("/", long), strings.Repeat("/", long))
	wantClean(t, strings.Repeat(".", long), strings.Repeat(".", long))
}

// P5.3: a reference of each kind, seen from an address of each kind.
func TestResolve(t *testing.T) {
	for _, c := range []struct{ base, u, want string }{
		{"http://h/x/y?q", "../z", "http://h/z"},
		{"http://h/x/y?q", "", "http://h/x/y?q"},
		{"http://h/x/y?", "", "http://h/x/y?"},
		{"http://h/x/y", "", "http://h/x/y"},
		{"http://h:80/x/y?q", "", "http://h:80/x/y?q"},
		{"http://h/x/./y/../z?q", "", "http://h/x/./y/../z?q"},
		{"http://h/x/y?q", "?", "http://h/x/y?"},
		{"http://h/x/y?q", "?r", "http://h/x/y?r"},
		{"http://h/x/y", "?r", "http://h/x/y?r"},
		{"http://h:80/x/../y?q", "?r/../s", "http://h:80/x/../y?r/../s"},
		{"http://h/x/y?q", "/", "http://h/"},
		{"http://h:80/x/y?q", "/a", "http://h:80/a"},
		{"http://h/x/y?q", "/a?", "http://h/a?"},
		{"http://h/x/y?q", "/a?r", "http://h/a?r"},
		{"http://h/x/y?q", "/a/./b/../c", "http://h/a/c"},
		{"http://h/x/y?q", "/..", "http://h/"},
		{"http://h/x/y?q", "/.//a", "http://h//a"},
		{"http://h/x/y?q", "/a:b", "http://h/a:b"},
		{"http://h/x/y?q", "z", "http://h/x/z"},
		{"http://h:80/x/y?q", "z?r", "http://h:80/x/z?r"},
		{"http://h/x/y/?q", "z", "http://h/x/y/z"},
		{"http://h/", "z", "http://h/z"},
		{"http://h", "z", "http://h/z"},
		{"http://h?a/b/c", "z", "http://h/z"},
		{"http://h/x/y?a/b/c", "z", "http://h/x/z"},
		{"http://h//", "z", "http://h//z"},
		{"http://h/x/y", ".", "http://h/x/"},
		{"http://h/x/y", "..", "http://h/"},
		{"http://h/x/y", "./", "http://h/x/"},
		{"http://h/x/y", "../..", "http://h/"},
		{"http://h/x/y", "../../../z", "http://h/z"},
		{"http://h/x/../v/y", "z", "http://h/v/z"},
		{"http://h/x/..", "z", "http://h/x/z"},
		{"http://h/x/y", "z/./w/../v/", "http://h/x/z/v/"},
		{"http://h/x/y", "./a:b", "http://h/x/a:b"},
		{"http://h/x/y?q", "http://k", "http://k/"},
		{"http://h:80/x/y?q", "http://k/../m", "http://k/m"},
		{"http://h:80/x/y?q", "HTTP://K:81/a/./b?r", "http://k:81/a/b?r"},
		{"http://h/x/y?q", "http://h?r", "http://h/?r"},
		{"http://h/x/y?q", "http://k?", "http://k/?"},
	} {
		base, badBase := Parse(c.base)
		u, badU := Parse(c.u)
		want, badWant := Parse(c.want)
		if badBase != api.OK || badU != api.OK || badWant != api.OK {
			t.Fatalf("%q, %q, %q: not read", c.base, c.u, c.want)
		}
		wantResolve(t, base, u, want, api.OK)
		if got, bad := Print(want); got != c.want || bad != api.OK {
			t.Errorf("%q is written %q, %d", c.want, got, bad)
		}
	}
}

// P5.3: what may not be, as a base and as a reference, and a base that is not Abs; these come first.
func TestResolveWrong(t *testing.T) {
	base := address("h", 0, "/x/y")
	full := address("h", 0, "/"+fill(490)+"/")
	for _, u := range wrongs() {
		wantResolve(t, base, u, api.Uri{}, api.ErrArg)
		wantResolve(t, u, base, api.Uri{}, api.ErrArg)
		wantResolve(t, u, reference("z"), api.Uri{}, api.ErrArg)
		wantResolve(t, full, u, api.Uri{}, api.ErrArg)
		wantResolve(t, u, u, api.Uri{}, api.ErrArg)
	}
	for _, u := range rights() {
		if !u.Abs {
			wantResolve(t, u, base, api.Uri{}, api.ErrArg)
			wantResolve(t, u, reference("z"), api.Uri{}, api.ErrArg)
			wantResolve(t, u, reference(fill(500)), api.Uri{}, api.ErrArg)
			wantResolve(t, u, reference(""), api.Uri{}, api.ErrArg)
		}
	}
}

// P5.3: how long it may be, which is asked of what comes out alone.
func TestResolveLength(t *testing.T) {
	h := address("h", 0, "/")
	host := address(fill(100), 0, "/")
	wantResolve(t, h, reference("/"+fill(491)), address("h", 0, "/"+fill(491)), api.OK)
	wantResolve(t, h, reference("/"+fill(492)), api.Uri{}, api.ErrLong)
	wantResolve(t, h, reference(fill(491)), address("h", 0, "/"+fill(491)), api.OK)
	wantResolve(t, h, reference(fill(492)), api.Uri{}, api.ErrLong)
	wantResolve(t, host, reference("/"+fill(392)), address(fill(100), 0, "/"+fill(392)), api.OK)
	wantResolve(t, host, reference("/"+fill(393)), api.Uri{}, api.ErrLong)
	wantResolve(t, address("h", 1, "/"), reference(fill(489)), address("h", 1, "/"+fill(489)), api.OK)
	wantResolve(t, address("h", 1, "/"), reference(fill(490)), api.Uri{}, api.ErrLong)
	wantResolve(t, h, asking(reference(""), fill(490)), asking(h, fill(490)), api.OK)
	wantResolve(t, h, asking(reference(""), fill(491)), api.Uri{}, api.ErrLong)
	wantResolve(t, h, asking(reference(fill(490)), ""), asking(address("h", 0, "/"+fill(490)), ""), api.OK)
	wantResolve(t, h, asking(reference(fill(491)), ""), api.Uri{}, api.ErrLong)
	// A Query of the base that does not come out takes no room.
	wantResolve(t, asking(h, fill(490)), reference(fill(491)), address("h", 0, "/"+fill(491)), api.OK)
	// Nor do steps of both that are cleaned away.
	deep := address("h", 0, "/"+strings.Repeat("a/", 245))
	wantResolve(t, deep, reference(strings.Repeat("../", 160)+fill(20)), address("h", 0, "/"+strings.Repeat("a/", 85)+fill(20)), api.OK)
	wantResolve(t, deep, reference("."), deep, api.OK)
	wantResolve(t, deep, reference("b"), address("h", 0, deep.Path+"b"), api.OK)
	wantResolve(t, deep, reference("bc"), api.Uri{}, api.ErrLong)
	// An address is never longer than it was.
	wantResolve(t, host, address("h", 0, "/"+fill(491)), address("h", 0, "/"+fill(491)), api.OK)
}

// resolvedAgain tells by the document's words, part by part, what a reference that is no address tells, seen from a base.
func resolvedAgain(base, u api.Uri) api.Uri {
	path, from := u.Path, u
	switch {
	case path == "" && u.Asks:
		path = base.Path
	case path == "":
		path, from = base.Path, base
	case path[0] == '/':
		path = cleaned(path)
	default:
		path = cleaned(regexp.MustCompile(`[^/]*$`).ReplaceAllString(base.Path, "") + path)
	}
	return api.Uri{Abs: true, Host: base.Host, Port: base.Port, Path: path, Asks: from.Asks, Query: from.Query}
}

// P5.3 and P5.4: all short references, seen from bases of all short paths: what is resolved may be, is read again, and, unless its path is the base's own, is clean and is resolved again as the same.
func TestResolveOfAllShortReferences(t *testing.T) {
	var us []api.Uri
	for _, path := range texts("/.a", 5) {
		for _, u := range []api.Uri{reference(path), asking(reference(path), ""), asking(reference(path), "r")} {
			if Right(u) {
				us = append(us, u)
			}
		}
	}
	elsewhere := asking(address("k", 9, "/v/../w"), "s")
	for _, end := range texts("/.a", 4) {
		for _, base := range []api.Uri{address("h", 0, "/"+end), asking(address("h", 80, "/"+end), "q")} {
			for _, u := range us {
				want := resolvedAgain(base, u)
				wantResolve(t, base, u, want, api.OK)
				s, bad := Print(want)
				if !Right(want) || bad != api.OK {
					t.Fatalf("%s seen from %s may not be", told(u), told(base))
				}
				wantParse(t, s, want, api.OK)
				if u.Path != "" || cleaned(base.Path) == base.Path {
					wantClean(t, want.Path, want.Path)
					wantResolve(t, base, want, want, api.OK)
					wantResolve(t, elsewhere, want, want, api.OK)
				}
			}
		}
	}
}

// P5.3 and P5.4: addresses of all short paths, whose base tells nothing.
func TestResolveOfAllShortAddresses(t *testing.T) {
	for _, end := range texts("/.a", 7) {
		for _, u := range []api.Uri{address("k", 0, "/"+end), address("k", 9, "/"+end), asking(address("k", 0, "/"+end), ""), asking(address("k", 0, "/"+end), "r")} {
			want := u
			want.Path = cleaned(u.Path)
			for _, base := range []api.Uri{address("h", 80, "/x/y"), asking(address("h", 0, "/"), "q")} {
				wantResolve(t, base, u, want, api.OK)
				wantResolve(t, base, want, want, api.OK)
			}
		}
	}
}
