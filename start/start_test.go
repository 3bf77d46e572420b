package start

import (
	"fmt"
	"math"
	"regexp"
	"strconv"
	"strings"
	"testing"

	"intarsia/api"
)

// The bytes are written out, so that one too many or too few is found.
const (
	tokenBytes   = "abcdefghijklmnopqrstuvwxyzABCDEFGHIJKLMNOPQRSTUVWXYZ0123456789!#$%&'*+-.^_|~\x60"
	addressBytes = "!$%&'()*+,-./0123456789:;=?@ABCDEFGHIJKLMNOPQRSTUVWXYZ[]_abcdefghijklmnopqrstuvwxyz~"
	controlBytes = "\x00\x01\x02\x03\x04\x05\x06\x07\x08\x0a\x0b\x0c\x0d\x0e\x0f\x10\x11\x12\x13\x14\x15\x16\x17\x18\x19\x1a\x1b\x1c\x1d\x1e\x1f\x7f"
)

// long is far beyond any limit.
const long = 1 << 20

func request(method, target string, minor int) api.Start {
	return api.Start{Method: method, Target: target, Minor: minor}
}

func status(code int, reason string, minor int) api.Start {
	return api.Start{Code: code, Reason: reason, Minor: minor}
}

// told cuts a first line short, so that a fault's report can be read.
func told(s api.Start) string {
	return fmt.Sprintf("{%.80q %.80q %d %.80q %d}", s.Method, s.Target, s.Code, s.Reason, s.Minor)
}

func fill(count int) string { return strings.Repeat("x", count) }

// rights are first lines that may be, at the document's edges, each as it is written.
func rights() map[string]api.Start {
	return map[string]api.Start{
		"GET /x HTTP/1.1":                         request("GET", "/x", 1),
		"GET /x HTTP/1.0":                         request("GET", "/x", 0),
		"get / HTTP/1.1":                          request("get", "/", 1),
		"G / HTTP/1.1":                            request("G", "/", 1),
		"* / HTTP/1.0":                            request("*", "/", 0),
		"200 /200 HTTP/1.1":                       request("200", "/200", 1),
		"HTTP /HTTP/1.1 HTTP/1.1":                 request("HTTP", "/HTTP/1.1", 1),
		fill(19) + " / HTTP/1.1":                  request(fill(19), "/", 1),
		fill(20) + " / HTTP/1.0":                  request(fill(20), "/", 0),
		"OPTIONS * HTTP/1.1":                      request("OPTIONS", "*", 1),
		"GET * HTTP/1.0":                          request("GET", "*", 0),
		"GET // HTTP/1.1":                         request("GET", "//", 1),
		"GET /* HTTP/1.1":                         request("GET", "/*", 1),
		"GET /a/../b?q=1&r:s HTTP/1.1":            request("GET", "/a/../b?q=1&r:s", 1),
		"GET /a?b?c HTTP/1.1":                     request("GET", "/a?b?c", 1),
		"GET /!~ HTTP/1.1":                        request("GET", "/!~", 1),
		"GET http:// HTTP/1.1":                    request("GET", "http://", 1),
		"GET http://h/x?q HTTP/1.0":               request("GET", "http://h/x?q", 0),
		"GET http://H:x@[::1] HTTP/1.1":           request("GET", "http://H:x@[::1]", 1),
		"GET /" + fill(498) + " HTTP/1.1":         request("GET", "/"+fill(498), 1),
		"GET /" + fill(499) + " HTTP/1.1":         request("GET", "/"+fill(499), 1),
		"GET http://" + fill(493) + " HTTP/1.0":   request("GET", "http://"+fill(493), 0),
		"HTTP/1.0 200 OK":                         status(200, "OK", 0),
		"HTTP/1.1 200 OK":                         status(200, "OK", 1),
		"HTTP/1.1 404 Not Found":                  status(404, "Not Found", 1),
		"HTTP/1.1 100 ":                           status(100, "", 1),
		"HTTP/1.0 100 Continue":                   status(100, "Continue", 0),
		"HTTP/1.0 599 ":                           status(599, "", 0),
		"HTTP/1.1 599 x":                          status(599, "x", 1),
		"HTTP/1.1 200 200":                        status(200, "200", 1),
		"HTTP/1.1 200 HTTP/1.1 200 OK":            status(200, "HTTP/1.1 200 OK", 1),
		"HTTP/1.1 200 / HTTP/1.1":                 status(200, "/ HTTP/1.1", 1),
		"HTTP/1.1 200 a  b":                       status(200, "a  b", 1),
		"HTTP/1.1 200 a\tb \t c":                  status(200, "a\tb \t c", 1),
		"HTTP/1.1 200 ~\x80\xff\xc3":              status(200, "~\x80\xff\xc3", 1),
		"HTTP/1.1 200 \u00a0é\u2003":              status(200, "\u00a0é\u2003", 1),
		"HTTP/1.1 200 \"#<>\\^{|}\x60":            status(200, "\"#<>\\^{|}\x60", 1),
		"HTTP/1.1 200 " + fill(99):                status(200, fill(99), 1),
		"HTTP/1.0 200 " + fill(100):               status(200, fill(100), 0),
		"HTTP/1.0 200 " + strings.Repeat("é", 50): status(200, strings.Repeat("é", 50), 0),
	}
}

// wrongs are just beyond, each by one of its parts.
func wrongs() []api.Start {
	return []api.Start{
		{},
		{Minor: 1},
		request("GET", "/x", -1),
		request("GET", "/x", 2),
		request("GET", "/x", 10),
		request("GET", "/x", math.MinInt),
		request("GET", "/x", math.MaxInt),
		request("", "/x", 1),
		request("", "*", 1),
		request(fill(21), "/x", 1),
		request(fill(long), "/x", 1),
		request("GET ", "/x", 1),
		request(" GET", "/x", 1),
		request("G T", "/x", 1),
		request("GET/", "/x", 1),
		request("HTTP/1.1", "/x", 1),
		request("GÉT", "/x", 1),
		request("GET\x00", "/x", 1),
		request("GET", "", 1),
		request("GET", "x", 1),
		request("GET", "x/", 1),
		request("GET", "?q", 1),
		request("GET", "**", 1),
		request("GET", "*/", 1),
		request("GET", "*x", 1),
		request("GET", "* ", 1),
		request("GET", " *", 1),
		request("GET", " /", 1),
		request("GET", "/ ", 1),
		request("GET", "/a b", 1),
		request("GET", "/a#b", 1),
		request("GET", "/é", 1),
		request("GET", "http:/", 1),
		request("GET", "http:", 1),
		request("GET", "http:/h/", 1),
		request("GET", "HTTP://h/", 1),
		request("GET", "Http://h/", 1),
		request("GET", "https://h/", 1),
		request("GET", "xhttp://h/", 1),
		request("GET", "h:80", 1),
		request("GET", "/"+fill(500), 1),
		request("GET", "http://"+fill(494), 1),
		request("GET", "/"+fill(long), 1),
		request("GET", fill(500), 1),
		{Method: "GET", Target: "/x", Reason: "OK", Minor: 1},
		{Method: "GET", Target: "/x", Reason: " ", Minor: 1},
		{Method: "GET", Target: "/x", Code: 200, Minor: 1},
		{Method: "GET", Target: "/x", Code: 200, Reason: "OK", Minor: 1},
		{Method: "GET", Target: "/x", Code: 1, Minor: 1},
		{Method: "GET", Target: "/x", Code: -1, Minor: 1},
		{Method: "GET", Code: 200, Reason: "OK", Minor: 1},
		{Target: "/x", Code: 200, Reason: "OK", Minor: 1},
		{Target: "*", Code: 200, Minor: 1},
		{Method: "GET", Code: 100},
		status(200, "OK", -1),
		status(200, "OK", 2),
		status(200, "OK", math.MinInt),
		status(200, "OK", math.MaxInt),
		status(0, "OK", 1),
		status(-200, "OK", 1),
		status(1, "OK", 1),
		status(99, "OK", 1),
		status(99, "", 0),
		status(600, "OK", 1),
		status(600, "", 0),
		status(2000, "OK", 1),
		status(math.MinInt, "OK", 1),
		status(math.MaxInt, "OK", 1),
		status(1<<32+200, "OK", 1),
		status(200, fill(101), 1),
		status(200, strings.Repeat("é", 51), 1),
		status(200, fill(long), 1),
		status(200, " ", 1),
		status(200, "\t", 1),
		status(200, " OK", 1),
		status(200, "OK ", 1),
		status(200, "\tOK", 1),
		status(200, "OK\t", 1),
		status(200, "O\rK", 1),
		status(200, "OK\r\n", 1),
		status(200, "\x00", 1),
		status(200, "OK\x7f", 1),
	}
}

// wantRight asks Right and Print, which hang together.
func wantRight(t *testing.T, s api.Start, line string) {
	t.Helper()
	if !Right(s) {
		t.Errorf("Right(%s) = false", told(s))
	}
	if got, bad := Print(s); got != line || bad != api.OK {
		t.Errorf("Print(%s) = %.80q, %d; want %.80q", told(s), got, bad, line)
	}
}

func wantWrong(t *testing.T, s api.Start) {
	t.Helper()
	if Right(s) {
		t.Errorf("Right(%s) = true", told(s))
	}
	if got, bad := Print(s); got != "" || bad != api.ErrArg {
		t.Errorf("Print(%s) = %.80q, %d; want nothing, ErrArg", told(s), got, bad)
	}
}

// want asks that it may be, and is written so, or that it may not be.
func want(t *testing.T, may bool, s api.Start, line string) {
	t.Helper()
	if may {
		wantRight(t, s, line)
	} else {
		wantWrong(t, s)
	}
}

func wantParse(t *testing.T, line string, want api.Start, wantBad api.Errno) {
	t.Helper()
	if got, bad := Parse(line); got != want || bad != wantBad {
		t.Errorf("Parse(%.80q of %d bytes) = %s, %d; want %s, %d", line, len(line), told(got), bad, told(want), wantBad)
	}
}

func wantStatus(t *testing.T, line string, want api.Start, wantBad api.Errno) {
	t.Helper()
	if got, bad := Status(line); got != want || bad != wantBad {
		t.Errorf("Status(%.80q of %d bytes) = %s, %d; want %s, %d", line, len(line), told(got), bad, told(want), wantBad)
	}
}

// wantRead asks both readers: that one that the first line is for reads it, and the other one refuses it.
func wantRead(t *testing.T, line string, s api.Start) {
	t.Helper()
	if s.Code == 0 {
		wantParse(t, line, s, api.OK)
		wantStatus(t, line, api.Start{}, api.ErrStart)
	} else {
		wantStatus(t, line, s, api.OK)
		wantParse(t, line, api.Start{}, api.ErrStart)
	}
}

func wantUnread(t *testing.T, line string) {
	t.Helper()
	wantParse(t, line, api.Start{}, api.ErrStart)
	wantStatus(t, line, api.Start{}, api.ErrStart)
}

// P6.1: the chapter's examples.
func TestExamples(t *testing.T) {
	wantParse(t, "GET /x HTTP/1.1", api.Start{Method: "GET", Target: "/x", Minor: 1}, api.OK)
	wantStatus(t, "HTTP/1.0 200 OK", api.Start{Code: 200, Reason: "OK", Minor: 0}, api.OK)
}

// P6.1: what may be, by each of its parts.
func TestRightAndPrint(t *testing.T) {
	for line, s := range rights() {
		wantRight(t, s, line)
	}
	for _, s := range wrongs() {
		wantWrong(t, s)
	}
}

// P6.1: each byte of a Method, a Target and a Reason, at its beginning, within and at its end.
func TestRightBytes(t *testing.T) {
	for i := range 256 {
		c := string([]byte{byte(i)})
		inMethod := strings.Contains(tokenBytes, c)
		inTarget := strings.Contains(addressBytes, c)
		inReason := !strings.Contains(controlBytes, c)
		atEnds := inReason && c != " " && c != "\t"
		for _, s := range []string{c, c + "ab", "a" + c + "b", "ab" + c} {
			want(t, inMethod, request(s, "/", 1), s+" / HTTP/1.1")
			want(t, inTarget, request("M", "/"+s, 1), "M /"+s+" HTTP/1.1")
			want(t, inTarget, request("M", "http://"+s, 0), "M http://"+s+" HTTP/1.0")
			may := inReason && s == "a"+c+"b" || atEnds
			want(t, may, status(200, s, 1), "HTTP/1.1 200 "+s)
		}
		want(t, c == "/" || c == "*", request("M", c, 1), "M "+c+" HTTP/1.1")
		want(t, c == "/", request("M", c+"x", 1), "M "+c+"x HTTP/1.1")
	}
}

// P6.1: the same bytes within lines that are read.
func TestReadBytes(t *testing.T) {
	for i := range 256 {
		c := string([]byte{byte(i)})
		check := func(may bool, line string, s api.Start) {
			if may {
				wantRead(t, line, s)
			} else {
				wantUnread(t, line)
			}
		}
		inTarget := strings.Contains(addressBytes, c)
		check(strings.Contains(tokenBytes, c), "a"+c+"b / HTTP/1.1", request("a"+c+"b", "/", 1))
		check(inTarget, "M /a"+c+"b HTTP/1.1", request("M", "/a"+c+"b", 1))
		check(inTarget, "M http://a"+c+"b HTTP/1.0", request("M", "http://a"+c+"b", 0))
		check(!strings.Contains(controlBytes, c), "HTTP/1.1 200 a"+c+"b", status(200, "a"+c+"b", 1))
		check(c == " ", "M"+c+"/ HTTP/1.1", request("M", "/", 1))
		check(c == " ", "M /"+c+"HTTP/1.1", request("M", "/", 1))
		check(c == " ", "HTTP/1.1"+c+"200 OK", status(200, "OK", 1))
		check(c == " ", "HTTP/1.1 200"+c+"OK", status(200, "OK", 1))
	}
}

// P6.1: each Code, and those just beyond, with and without a Reason.
func TestRightCodes(t *testing.T) {
	for code := -1100; code <= 6100; code++ {
		may := code >= 100 && code <= 599
		digits := strconv.Itoa(code)
		want(t, may, status(code, "", 1), "HTTP/1.1 "+digits+" ")
		want(t, may, status(code, "x y", 0), "HTTP/1.0 "+digits+" x y")
		for _, line := range []string{"HTTP/1.1 " + digits, "HTTP/1.1 " + digits + " "} {
			if may {
				wantRead(t, line, status(code, "", 1))
			} else {
				wantUnread(t, line)
			}
		}
		wantUnread(t, "HTTP/1.1 0"+digits+" OK")
		wantUnread(t, "HTTP/1.1 +"+digits+" OK")
		wantUnread(t, "HTTP/1.1 -"+digits+" OK")
	}
}

// P6.1: the blank behind Code may be left out where Reason is empty, and nowhere else.
func TestStatusWithoutBlank(t *testing.T) {
	wantRead(t, "HTTP/1.1 200", status(200, "", 1))
	wantRead(t, "HTTP/1.1 200 ", status(200, "", 1))
	wantRead(t, "HTTP/1.0 599", status(599, "", 0))
	wantRead(t, "HTTP/1.0 599 ", status(599, "", 0))
	for _, line := range []string{"HTTP/1.1 200  ", "HTTP/1.1 200\t", "HTTP/1.1 200 \t", "HTTP/1.1 200OK", "HTTP/1.1 200\tOK", "HTTP/1.1 200-OK", "HTTP/1.1 200,"} {
		wantUnread(t, line)
	}
}

// P6.1: lines that neither a request nor an answer has.
func TestWrongLines(t *testing.T) {
	for _, line := range []string{
		"", " ", "  ", "   ", "\t", "\r\n", "\x00",
		// A part that is left out.
		"GET", "GET ", "GET /x", "GET /x ", "/x HTTP/1.1", " /x HTTP/1.1", "GET HTTP/1.1", "GET  HTTP/1.1", "HTTP/1.1", " HTTP/1.1", "HTTP/1.1 ", "HTTP/1.1  ", "HTTP/1.1 OK", "HTTP/1.1  OK", "200 OK", " 200 OK", "200", "GET /x HTTP", "GET /x HTTP/", "GET /x HTTP/1", "GET /x HTTP/1.", "GET /x 1.1", "GET /x 1", "HTTP/1. 200 OK", "HTTP/1 200 OK", "HTTP 200 OK",
		// One too many.
		"GET /x /y HTTP/1.1", "GET GET /x HTTP/1.1", "GET /x HTTP/1.1 HTTP/1.1", "GET /x HTTP/1.1 x", "GET * * HTTP/1.1", "HTTP/1.1 HTTP/1.1 200 OK", "GET HTTP/1.1 200 OK", "HTTP/1.1 /x 200 OK",
		// Two blanks where one stands, or another byte there, and blanks at the ends.
		"GET  /x HTTP/1.1", "GET /x  HTTP/1.1", "GET\t/x HTTP/1.1", "GET /x\tHTTP/1.1", "GET,/x HTTP/1.1", " GET /x HTTP/1.1", "GET /x HTTP/1.1 ", "\tGET /x HTTP/1.1", "GET /x HTTP/1.1\t", "GET /x HTTP/1.1\r", "GET /x HTTP/1.1\n", "GET /x HTTP/1.1\r\n",
		"HTTP/1.1  200 OK", "HTTP/1.1 200  OK", "HTTP/1.1\t200 OK", "HTTP/1.1 200\tOK", " HTTP/1.1 200 OK", "HTTP/1.1 200 OK ", "\tHTTP/1.1 200 OK", "HTTP/1.1 200 OK\t", "HTTP/1.1 200 \tOK", "HTTP/1.1 200 OK\r", "HTTP/1.1 200 OK\n", "HTTP/1.1 200 OK\r\n", "HTTP/1.1200 OK",
		// Another version.
		"GET /x HTTP/1.2", "GET /x HTTP/1.9", "GET /x HTTP/1.-1", "GET /x HTTP/1.00", "GET /x HTTP/1.01", "GET /x HTTP/1.10", "GET /x HTTP/1.11", "GET /x HTTP/1.1.", "GET /x HTTP/1.1x", "GET /x HTTP/1.x", "GET /x HTTP/0.9", "GET /x HTTP/0.1", "GET /x HTTP/2.0", "GET /x HTTP/2", "GET /x HTTP/01.1", "GET /x HTTP/11.1", "GET /x HTTP/1,1", "GET /x HTTPS/1.1", "GET /x xHTTP/1.1", "GET /x ICY/1.1",
		"HTTP/1.2 200 OK", "HTTP/1.9 200 OK", "HTTP/1.00 200 OK", "HTTP/1.01 200 OK", "HTTP/1.10 200 OK", "HTTP/1.11 200 OK", "HTTP/1.x 200 OK", "HTTP/0.9 200 OK", "HTTP/0.1 200 OK", "HTTP/2.0 200 OK", "HTTP/2 200 OK", "HTTP/11.1 200 OK", "HTTP/1,1 200 OK", "HTTPS/1.1 200 OK", "xHTTP/1.1 200 OK", "ICY 200 OK",
		// Small letters.
		"GET /x http/1.1", "GET /x Http/1.1", "GET /x HTTp/1.1", "GET /x hTTP/1.0", "http/1.1 200 OK", "Http/1.1 200 OK", "HTTp/1.0 200 OK", "hTTP/1.1 200",
		// A Code of other digits, or of other bytes.
		"HTTP/1.1 2 OK", "HTTP/1.1 20 OK", "HTTP/1.1 99 x", "HTTP/1.1 099 x", "HTTP/1.1 2000 OK", "HTTP/1.1 1000", "HTTP/1.1 0200 OK", "HTTP/1.1 00200 OK", "HTTP/1.1 000 OK", "HTTP/1.1 0 OK", "HTTP/1.1 600 OK", "HTTP/1.1 999 OK", "HTTP/1.1 +20 OK", "HTTP/1.1 -20 OK", "HTTP/1.1 -200 OK", "HTTP/1.1 2x0 OK", "HTTP/1.1 x00 OK", "HTTP/1.1 20x OK", "HTTP/1.1 abc OK", "HTTP/1.1 0xc8 OK", "HTTP/1.1 2.0 OK", "HTTP/1.1 20. OK", "HTTP/1.1 1e2 OK", "HTTP/1.1 2\x000 OK", "HTTP/1.1 \u0662 OK", "HTTP/1.1 18446744073709551816 OK", "HTTP/1.1 4294967496 OK", "HTTP/1.1 1099511627776 OK", "HTTP/1.1 " + strings.Repeat("0", long) + "200 OK",
		// A Method or a Target that may not be.
		"G(T /x HTTP/1.1", "GET: /x HTTP/1.1", "G/T /x HTTP/1.1", "\"GET\" /x HTTP/1.1", "GÉT /x HTTP/1.1", fill(21) + " /x HTTP/1.1", fill(long) + " /x HTTP/1.1",
		"GET x HTTP/1.1", "GET x/y HTTP/1.1", "GET ?q HTTP/1.1", "GET ** HTTP/1.1", "GET *x HTTP/1.1", "GET */ HTTP/1.1", "GET /#a HTTP/1.1", "GET /\\ HTTP/1.1", "GET /é HTTP/1.1", "GET http: HTTP/1.1", "GET http:/ HTTP/1.1", "GET http:/h HTTP/1.1", "GET HTTP://h/ HTTP/1.1", "GET https://h/ HTTP/1.1", "GET h:80 HTTP/1.1", "GET /" + fill(500) + " HTTP/1.1", "GET http://" + fill(494) + " HTTP/1.1", "GET /" + fill(long) + " HTTP/1.1",
		// A Reason that may not be.
		"HTTP/1.1 200 O\x00K", "HTTP/1.1 200 O\x08K", "HTTP/1.1 200 O\nK", "HTTP/1.1 200 O\x1fK", "HTTP/1.1 200 O\x7fK", "HTTP/1.1 200 " + fill(101), "HTTP/1.1 200 " + fill(long),
		fill(long), strings.Repeat(" ", long), strings.Repeat("x ", long), strings.Repeat("HTTP/1.1 200 ", long),
	} {
		wantUnread(t, line)
	}
}

var (
	requestForm = regexp.MustCompile("^([-!#$%&'*+.^_|~\x600-9A-Za-z]{1,20}) (\\*|(?:/|http://)[]!$%&'()*+,./0-9:;=?@A-Z[_a-z~-]*) HTTP/1\\.([01])$")
	statusForm  = regexp.MustCompile("(?s)^HTTP/1\\.([01]) ([1-5][0-9][0-9])(?: ([^\x00-\x08\x0a-\x1f\x7f]*))?$")
)

// readAgain tells by the library's forms what a line is read as by Parse, and by Status, and whether it is.
func readAgain(line string) (request, status api.Start, is, was bool) {
	if f := requestForm.FindStringSubmatch(line); f != nil && len(f[2]) <= 500 {
		request.Method, request.Target, is = f[1], f[2], true
		request.Minor, _ = strconv.Atoi(f[3])
	}
	if f := statusForm.FindStringSubmatch(line); f != nil && len(f[3]) <= 100 && strings.Trim(f[3], " \t") == f[3] {
		status.Reason, was = f[3], true
		status.Minor, _ = strconv.Atoi(f[1])
		status.Code, _ = strconv.Atoi(f[2])
	}
	return request, status, is, was
}

// wantAsForms holds both readers against the forms, and what they read against what is written of it; it tells whether one of them reads the line.
func wantAsForms(t *testing.T, line string) bool {
	t.Helper()
	wantRequest, wantAnswer, is, was := readAgain(line)
	if is && was {
		t.Fatalf("%.80q is a request's and an answer's", line)
	}
	switch {
	case is:
		wantRead(t, line, wantRequest)
		wantRight(t, wantRequest, line)
	case was:
		wantRead(t, line, wantAnswer)
		if wantAnswer.Reason == "" {
			line = strings.TrimSuffix(line, " ") + " "
		}
		wantRight(t, wantAnswer, line)
	default:
		wantUnread(t, line)
	}
	return is || was
}

// P6.1 and P6.3: lines that are a byte off from one that may be: one left out, put in, put in another's place, or twice.
func TestLinesNearby(t *testing.T) {
	near := " \t\r/*h0129.#~PTx\x7f\x80"
	read, unread := 0, 0
	check := func(line string) {
		if wantAsForms(t, line) {
			read++
		} else {
			unread++
		}
	}
	for line := range rights() {
		check(line)
		for at := range len(line) {
			check(line[:at] + line[at+1:])
			check(line[:at])
			check(line[at:])
			check(line[:at+1] + line[at:])
			for i := range len(near) {
				check(line[:at] + near[i:i+1] + line[at:])
				check(line[:at] + near[i:i+1] + line[at+1:])
			}
		}
		for i := range len(near) {
			check(line + near[i:i+1])
		}
	}
	if read == 0 || unread == 0 {
		t.Errorf("%d lines are read and %d are not: this test tells nothing", read, unread)
	}
}

// P6.1 and P6.3: lines of any few parts, whether or not they belong together.
func TestLinesOfParts(t *testing.T) {
	parts := []string{"", "GET", "/x", "*", "http://h/", "HTTP/1.0", "HTTP/1.1", "HTTP/1.2", "http/1.1", "200", "0200", "OK", "\t"}
	lines := []string{""}
	for i := range 4 {
		var next []string
		for _, line := range lines {
			for _, part := range parts {
				if i > 0 {
					part = line + " " + part
				}
				wantAsForms(t, part)
				next = append(next, part)
			}
		}
		lines = next
	}
}

// P6.3: what is written is read again, by that one of both that it is for, and by no other one.
func TestWrittenIsReadAgain(t *testing.T) {
	for line, s := range rights() {
		wantRead(t, line, s)
	}
	for minor := range 2 {
		for code := 100; code <= 599; code++ {
			for _, s := range []api.Start{status(code, "", minor), status(code, Reason(code), minor), status(code, "/ HTTP/1.1", minor)} {
				line, bad := Print(s)
				if bad != api.OK {
					t.Errorf("Print(%s) tells %d", told(s), bad)
				}
				wantRead(t, line, s)
			}
		}
		for at := range len(tokenBytes) {
			for _, target := range []string{"/", "*", "http://", "/" + addressBytes, "http://" + addressBytes} {
				for _, s := range []api.Start{request(tokenBytes[at:at+1], target, minor), request("HTTP"+tokenBytes[at:at+1], target, minor)} {
					line, bad := Print(s)
					if bad != api.OK {
						t.Errorf("Print(%s) tells %d", told(s), bad)
					}
					wantRead(t, line, s)
				}
			}
		}
	}
}

// P6.2: each code that has a reason of its own, and all others near and far.
func TestReason(t *testing.T) {
	reasons := map[int]string{
		200: "OK", 304: "Not Modified", 400: "Bad Request", 404: "Not Found", 413: "Too Large", 431: "Fields Too Large",
		500: "Internal Error", 502: "Bad Gateway", 504: "Gateway Timeout",
	}
	codes := []int{math.MinInt, math.MaxInt, 1<<32 + 200, -1 << 32, 1 << 16, 1<<16 + 200}
	for code := -1000; code <= 2000; code++ {
		codes = append(codes, code)
	}
	for _, code := range codes {
		want, is := reasons[code]
		if !is {
			want = "Unknown"
		}
		if got := Reason(code); got != want {
			t.Errorf("Reason(%d) = %q; want %q", code, got, want)
		}
	}
}
