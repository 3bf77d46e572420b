package wire

import (
	"cmp"
	"slices"
	"strconv"
	"strings"
	"testing"

	"intarsia/api"
	"intarsia/chunk"
	"intarsia/frame"
	"intarsia/head"
	"intarsia/start"
)

const (
	get = "GET /x HTTP/1.1\r\n"
	put = "PUT /x HTTP/1.1\r\n"
	ok  = "HTTP/1.1 200 r\r\n"
)

// cut is a text in pieces of so many bytes.
func cut(s string, size int) []string {
	var pieces []string
	for at := 0; at < len(s); at += size {
		pieces = append(pieces, s[at:min(at+size, len(s))])
	}
	return pieces
}

// feedPieces feeds one piece behind the other: the last reader, and all messages. Each reader on the way may be, and none is changed.
func feedPieces(t *testing.T, r api.Reader, pieces ...string) (api.Reader, []api.Message, api.Errno) {
	t.Helper()
	var all []api.Message
	for _, piece := range pieces {
		before := slices.Clone(r.Head.Fields)
		next, whole, bad := Feed(r, piece)
		if bad != api.OK {
			return next, whole, bad
		}
		if !Right(next) || !slices.Equal(r.Head.Fields, before) {
			t.Errorf("Feed(%s, %.60q) = %s, which may not be, or changed the row", told(r), piece, told(next))
		}
		r, all = next, append(all, whole...)
	}
	return r, all, api.OK
}

// want asks what comes of bytes at once, byte by byte, and cut at each place (of many bytes: at some).
func want(t *testing.T, r api.Reader, s string, end api.Reader, whole ...api.Message) {
	t.Helper()
	check := func(pieces ...string) bool {
		t.Helper()
		got, all, bad := feedPieces(t, r, pieces...)
		is := sameReader(got, end) && sameMessages(all, whole) && bad == api.OK
		if !is {
			t.Errorf("of %s, %.200q in %d pieces, the first one of %d bytes, = %s, %s, %d; want %s, %s", told(r), s, len(pieces), len(pieces[0]), told(got), toldMessages(all), bad, told(end), toldMessages(whole))
		}
		return is
	}
	step := 1 + len(s)/1500
	is := check(s) && check("", s, "") && check(append([]string{""}, cut(s, step)...)...)
	for at := 0; is && at <= len(s); at += step {
		is = check(s[:at], s[at:])
	}
}

func asking(buf string) api.Reader { return api.Reader{Asks: true, Buf: buf} }

func answering(buf string) api.Reader { return api.Reader{Buf: buf} }

func bad(asks bool, e api.Errno) api.Reader { return api.Reader{Asks: asks, Bad: e} }

// P10.1: the chapter's example.
func TestExample(t *testing.T) {
	want(t, New(true, ""), "GET / HTTP/1.1\r\n\r\n", asking(""), message(api.Start{Method: "GET", Target: "/", Minor: 1}, nil, ""))
}

// P10.1: a request of each kind of body.
func TestRequests(t *testing.T) {
	r := New(true, "")
	want(t, r, get+"\r\n", r, message(ask("GET", 1), nil, ""))
	want(t, r, "GET /x HTTP/1.0\r\n\r\n", r, message(ask("GET", 0), nil, ""))
	want(t, r, get+"Host: h\r\na:b\r\n\r\n", r, message(ask("GET", 1), []api.Field{{Name: "Host", Value: "h"}, {Name: "a", Value: "b"}}, ""))
	want(t, r, "HEAD http://h/ HTTP/1.1\r\n\r\n", r, message(api.Start{Method: "HEAD", Target: "http://h/", Minor: 1}, nil, ""))
	want(t, r, put+"Content-Length: 0\r\n\r\n", r, message(ask("PUT", 1), one(length, "0"), ""))
	want(t, r, put+"Content-Length: 3\r\n\r\nabc", r, message(ask("PUT", 1), one(length, "3"), "abc"))
	want(t, r, "PUT /x HTTP/1.0\r\ncontent-length: 03\r\n\r\na\r\n", r, message(ask("PUT", 0), one("content-length", "03"), "a\r\n"))
	want(t, r, put+"Transfer-Encoding: chunked\r\n\r\n0\r\n\r\n", r, message(ask("PUT", 1), one(coding, "chunked"), ""))
	want(t, r, put+"transfer-encoding: Chunked\r\n\r\n3;x\r\nabc\r\n1\nd\n0\r\nt: u\r\n\r\n", r, message(ask("PUT", 1), one("transfer-encoding", "Chunked"), "abcd"))
}

// P10.1: an answer of each kind of body.
func TestAnswers(t *testing.T) {
	r := New(false, "")
	want(t, r, ok+"Content-Length: 0\r\n\r\n", r, message(answer(200, 1), one(length, "0"), ""))
	want(t, r, "HTTP/1.0 404 r\r\nContent-Length: 3\r\n\r\nabc", r, message(answer(404, 0), one(length, "3"), "abc"))
	want(t, r, "HTTP/1.1 200\r\nContent-Length: 0\r\n\r\n", r, message(api.Start{Code: 200, Minor: 1}, one(length, "0"), ""))
	want(t, r, ok+"Transfer-Encoding: chunked\r\n\r\n3\r\nabc\r\n0\r\n\r\n", r, message(answer(200, 1), one(coding, "chunked"), "abc"))
	want(t, r, "HTTP/1.1 204 r\r\nContent-Length: 3\r\n\r\n", r, message(answer(204, 1), one(length, "3"), ""))
	want(t, r, "HTTP/1.1 304 r\r\nTransfer-Encoding: gzip\r\n\r\n", r, message(answer(304, 1), one(coding, "gzip"), ""))
	end := inRest("")
	want(t, r, ok+"\r\n", end)
	end.Head = message(answer(200, 1), one("a", "b"), "abc\r\n\r\nHTTP/1.1 200 r\r\n\r\n")
	want(t, r, ok+"a: b\r\n\r\nabc\r\n\r\nHTTP/1.1 200 r\r\n\r\n", end)
	end.Head = message(answer(599, 0), nil, "\x00")
	want(t, r, "HTTP/1.0 599 r\r\n\r\n\x00", end)
}

// P10.1: an answer to `HEAD`, just so written, has no body, whatever its fields say; a reader of requests does not care for its Method.
func TestMethods(t *testing.T) {
	for _, method := range []string{"HEAD", "", "GET", "head", "Head", "HEADS", "no token", fill(30)} {
		r := New(false, method)
		within := api.Reader{Method: method, In: true, Head: message(answer(200, 1), one(length, "2"), ""), Body: api.Body{Kind: api.BSize, Size: 2}}
		ends := api.Reader{Method: method, In: true, Head: message(answer(200, 1), nil, ""), Body: api.Body{Kind: api.BClose}}
		if method == "HEAD" {
			want(t, r, ok+"Content-Length: 2\r\n\r\n", r, message(answer(200, 1), one(length, "2"), ""))
			want(t, r, ok+"\r\n", r, message(answer(200, 1), nil, ""))
			want(t, r, ok+"Transfer-Encoding: chunked\r\n\r\n"+ok+"Content-Length: x\r\n\r\nHTT", api.Reader{Method: method, Buf: "HTT"}, message(answer(200, 1), one(coding, "chunked"), ""), message(answer(200, 1), one(length, "x"), ""))
		} else {
			want(t, r, ok+"Content-Length: 2\r\n\r\n", within)
			want(t, r, ok+"\r\n", ends)
			want(t, r, ok+"Content-Length: x\r\n\r\n", api.Reader{Method: method, Bad: api.ErrFrame})
		}
		r = New(true, method)
		want(t, r, put+"Content-Length: 2\r\n\r\nab\r", api.Reader{Asks: true, Method: method, Buf: "\r"}, message(ask("PUT", 1), one(length, "2"), "ab"))
		want(t, r, "HEAD /x HTTP/1.1\r\nContent-Length: 2\r\n\r\nab", r, message(ask("HEAD", 1), one(length, "2"), "ab"))
		want(t, r, "x\n\n", api.Reader{Asks: true, Method: method, Bad: api.ErrStart})
	}
}

// P10.1: what waits, of a message that is not whole yet.
func TestParts(t *testing.T) {
	for _, s := range []string{"", "G", "GET /x HTTP/1.1", "GET /x HTTP/1.1\r", get, get + "\r", get + "a: b", get + "a: b\r\n", get + "a: b\r\n\r", "GET /x HTTP/1.1\na: b\n", "nonsense", "nonsense\r\nmore", " \n", "\x00\xff"} {
		want(t, New(true, ""), s, asking(s))
		want(t, New(true, ""), "\r\n\n"+s, asking(s))
		want(t, New(false, ""), s, answering(s))
	}
	want(t, New(true, ""), "\r", asking("\r"))
	for _, asks := range []bool{true, false} {
		first := ok
		if asks {
			first = put
		}
		r := New(asks, "")
		for s, end := range map[string]api.Reader{
			"Content-Length: 3\r\n\r\n":                               inSize(asks, 3, ""),
			"Content-Length: 3\r\n\r\na":                              inSize(asks, 3, "a"),
			"Content-Length: 3\r\n\r\n\r\n":                           inSize(asks, 3, "\r\n"),
			"Content-Length: 20000\r\n\r\n" + fill(19999):             inSize(asks, 20000, fill(19999)),
			"Transfer-Encoding: chunked\r\n\r\n":                      inChunks(asks, api.Chunked{}, ""),
			"Transfer-Encoding: chunked\r\n\r\n3;x":                   inChunks(asks, api.Chunked{Line: "3;x"}, ""),
			"Transfer-Encoding: chunked\r\n\r\n3\r\n":                 inChunks(asks, api.Chunked{Stage: api.CData, Left: 3}, ""),
			"Transfer-Encoding: chunked\r\n\r\n3\r\na":                inChunks(asks, api.Chunked{Stage: api.CData, Left: 2, Size: 1}, "a"),
			"Transfer-Encoding: chunked\r\n\r\n3\r\nabc\r":            inChunks(asks, api.Chunked{Stage: api.CEnd, Line: "\r", Size: 3}, "abc"),
			"Transfer-Encoding: chunked\r\n\r\n3\r\nabc\r\n0\r\nt: 1": inChunks(asks, api.Chunked{Stage: api.CTail, Line: "t: 1", Size: 3}, "abc"),
			"Transfer-Encoding: chunked\r\n\r\n1\na\n2\nb":            inChunks(asks, api.Chunked{Stage: api.CData, Left: 1, Size: 2}, "ab"),
		} {
			want(t, r, first+s, end)
		}
	}
}

// P10.1: several messages one behind the other, of each kind of body.
func TestSeveral(t *testing.T) {
	r := New(true, "")
	requests := get + "\r\n" + put + "Content-Length: 3\r\n\r\nabc" + put + "Transfer-Encoding: chunked\r\n\r\n1\r\nd\r\n0\r\n\r\n" + put + "Content-Length: 0\r\n\r\n" + "HEAD /x HTTP/1.0\n\n"
	told := []api.Message{message(ask("GET", 1), nil, ""), message(ask("PUT", 1), one(length, "3"), "abc"), message(ask("PUT", 1), one(coding, "chunked"), "d"), message(ask("PUT", 1), one(length, "0"), ""), message(ask("HEAD", 0), nil, "")}
	want(t, r, requests, r, told...)
	want(t, r, requests+requests, r, append(slices.Clone(told), told...)...)
	want(t, r, requests+get, asking(get), told...)
	want(t, r, requests+put+"Content-Length: 2\r\n\r\n", inSize(true, 2, ""), told...)
	want(t, r, requests+"x\n\n", bad(true, api.ErrStart), told...)

	r = New(false, "")
	answers := ok + "Content-Length: 3\r\n\r\nabc" + "HTTP/1.1 204 r\r\n\r\n" + ok + "Transfer-Encoding: chunked\r\n\r\n1\r\nd\r\n0\r\n\r\n" + "HTTP/1.0 304 r\n\n" + ok + "Content-Length: 0\r\n\r\n"
	told = []api.Message{message(answer(200, 1), one(length, "3"), "abc"), message(answer(204, 1), nil, ""), message(answer(200, 1), one(coding, "chunked"), "d"), message(answer(304, 0), nil, ""), message(answer(200, 1), one(length, "0"), "")}
	want(t, r, answers, r, told...)
	want(t, r, answers+answers, r, append(slices.Clone(told), told...)...)
	want(t, r, answers+ok, answering(ok), told...)
	want(t, r, answers+ok+"\r\n"+answers, changed(inRest(answers), func(*api.Reader) {}), told...)
	want(t, r, answers+"x\n\n", bad(false, api.ErrStart), told...)
}

// P10.1: empty lines go ahead of each request; ahead of an answer they are its first line.
func TestEmptyLines(t *testing.T) {
	r := New(true, "")
	m := message(ask("GET", 1), nil, "")
	for _, empty := range []string{"\n", "\r\n", "\n\n", "\r\n\r\n", "\n\r\n", "\r\n\n\r\n\n", strings.Repeat("\r\n", 3000), strings.Repeat("\n", 5000)} {
		want(t, r, empty, r)
		want(t, r, empty+get+"\r\n", r, m)
		want(t, r, empty+get+"\r\n"+empty, r, m)
		want(t, r, get+"\r\n"+empty+get+"\r\n", r, m, m)
		want(t, r, put+"Content-Length: 1\r\n\r\na"+empty+get+"\r\n"+empty+"G", asking("G"), message(ask("PUT", 1), one(length, "1"), "a"), m)
		want(t, r, put+"Transfer-Encoding: chunked\r\n\r\n0\r\n\r\n"+empty+get+"\r\n", r, message(ask("PUT", 1), one(coding, "chunked"), ""), m)
		want(t, New(false, ""), empty, bad(false, api.ErrStart))
		want(t, New(false, ""), empty+ok+"Content-Length: 0\r\n\r\n", bad(false, api.ErrStart))
		want(t, New(false, ""), "HTTP/1.1 204 r\r\n\r\n"+empty+ok, bad(false, api.ErrStart), message(answer(204, 1), nil, ""))
		want(t, New(false, ""), "HTTP/1.1 100 r\r\n\r\n"+empty+ok, bad(false, api.ErrStart))
	}
	// These are no empty lines.
	for _, s := range []string{" \r\n", "\t\n", "\r\r\n", "\r \n", "\x00\n", "\r\r\r\n"} {
		want(t, r, s+get+"\r\n", bad(true, api.ErrStart))
		want(t, r, "\r\n"+s+get+"\r\n", bad(true, api.ErrStart))
		want(t, r, s+"\n", bad(true, api.ErrStart))
	}
}

// P10.1: a line ends with 10, and one 13 ahead of that is not of it.
func TestLineEnds(t *testing.T) {
	ends := []string{"\n", "\r\n"}
	for _, a := range ends {
		for _, b := range ends {
			for _, c := range ends {
				want(t, New(true, ""), "PUT /x HTTP/1.1"+a+"Content-Length: 1"+b+c+"ab", asking("b"), message(ask("PUT", 1), one(length, "1"), "a"))
				want(t, New(true, ""), "GET /x HTTP/1.1"+a+c+b, asking(""), message(ask("GET", 1), nil, ""))
				want(t, New(false, ""), "HTTP/1.1 200 r"+a+"Transfer-Encoding: chunked"+b+c+"0"+a+b, answering(""), message(answer(200, 1), one(coding, "chunked"), ""))
				want(t, New(false, ""), "HTTP/1.1 204"+a+"a:"+b+c, answering(""), message(api.Start{Code: 204, Minor: 1}, one("a", ""), ""))
				want(t, New(true, ""), "GET /x HTTP/1.1\r\r"+a+b+c, bad(true, api.ErrStart))
				want(t, New(false, ""), "HTTP/1.1 200 r\r\r"+a+b+c, bad(false, api.ErrStart))
				want(t, New(true, ""), "GET /x HTTP/1.1"+a+"a: b\r"+"\r"+b+c, bad(true, api.ErrHead))
				want(t, New(true, ""), "GET /x HTTP/1.1"+a+"\r\r"+b+c, bad(true, api.ErrHead))
				want(t, New(true, ""), "GET /x HTTP/1.1"+a+"a: b"+b+"\r"+"\r"+c+"\n", bad(true, api.ErrHead))
			}
		}
	}
	want(t, New(true, ""), "GET /x HTTP/1.1\ra: b\r\n\r\n", bad(true, api.ErrStart))
	want(t, New(true, ""), "GET /x HTTP/1.1\r\n\r", asking("GET /x HTTP/1.1\r\n\r"))
}

// P10.1: an answer of a Code below 200 goes, whatever its fields say of a body; one that is none does not.
func TestPassedOver(t *testing.T) {
	r := New(false, "")
	final := ok + "Content-Length: 1\r\n\r\na"
	m := message(answer(200, 1), one(length, "1"), "a")
	for _, code := range []int{100, 101, 102, 199} {
		for _, fields := range []string{"", "a: b\r\n", "Content-Length: 5\r\n", "Content-Length: x\r\n", "Transfer-Encoding: chunked\r\n", "Transfer-Encoding: gzip\r\n", "Content-Length: 20001\r\n"} {
			s := "HTTP/1.1 " + strconv.Itoa(code) + " r\r\n" + fields + "\r\n"
			want(t, r, s, r)
			want(t, r, s+final, r, m)
			want(t, r, s+s+final, r, m)
			want(t, r, final+s, r, m)
			want(t, r, final+s+final+s+"HTTP", answering("HTTP"), m, m)
			want(t, New(false, "HEAD"), s+ok+"\r\n", New(false, "HEAD"), message(answer(200, 1), nil, ""))
			want(t, r, s+"x\r\n\r\n", bad(false, api.ErrStart))
		}
		s := "HTTP/1.1 " + strconv.Itoa(code) + " r\r\n"
		want(t, r, s+"x\r\n\r\n"+final, bad(false, api.ErrHead))
		want(t, r, s+strings.Repeat("a:\r\n", 41)+"\r\n"+final, bad(false, api.ErrMany))
		want(t, r, s+strings.Repeat("a:\r\n", 40)+"\r\n"+final, r, m)
		want(t, r, s+strings.Repeat("a: "+fill(990)+"\r\n", 5)+"\r\n"+final, bad(false, api.ErrLong))
	}
	want(t, r, "HTTP/1.1 99 r\r\n\r\n"+final, bad(false, api.ErrStart))
	want(t, r, "HTTP/1.1 200 r\r\n\r\n"+final, inRest(final))
}

// headOf has so many bytes, with the empty line.
func headOf(first string, count int) string {
	row := lines(first)
	for count-len(row)-2 > 1000 {
		row += lines("a: " + fill(795))
	}
	return row + lines("a: "+fill(count-len(row)-7), "")
}

// fieldsOf are those of a head, with the empty line.
func fieldsOf(s string) []api.Field {
	all := strings.SplitAfter(s, "\r\n")
	l, _ := head.Parse(strings.Join(all[1:len(all)-2], ""))
	return l
}

// P10.1: a head of 4000 bytes may be, one of 4001 may not.
func TestLongHeads(t *testing.T) {
	for count := 3997; count <= 4003; count++ {
		request, status := headOf("GET /x HTTP/1.1", count), headOf("HTTP/1.1 204 r", count)
		if len(request) != count || len(status) != count {
			t.Fatalf("heads of %d and %d bytes, not %d", len(request), len(status), count)
		}
		for _, behind := range []string{"", "x", get, fill(4000)} {
			if count > 4000 {
				want(t, New(true, ""), request+behind, bad(true, api.ErrLong))
				want(t, New(true, ""), "\r\n\n"+get+"\r\n"+request+behind, bad(true, api.ErrLong), message(ask("GET", 1), nil, ""))
				want(t, New(false, ""), status+behind, bad(false, api.ErrLong))
				continue
			}
			want(t, New(true, ""), request+behind, asking(behind), message(ask("GET", 1), fieldsOf(request), ""))
			want(t, New(true, ""), strings.Repeat("\r\n", 1000)+request+behind, asking(behind), message(ask("GET", 1), fieldsOf(request), ""))
			want(t, New(false, ""), status+behind, answering(behind), message(answer(204, 1), fieldsOf(status), ""))
		}
	}
}

// P10.1: up to 4000 bytes without an empty line wait, more are too long; empty lines ahead of a request do not count.
func TestLongHeadsWithoutEnd(t *testing.T) {
	for _, s := range []string{fill(3999), fill(4000), get + fill(4000-len(get)), strings.Repeat("x\n", 2000)} {
		want(t, New(true, ""), s, asking(s))
		want(t, New(true, ""), strings.Repeat("\n", 4000)+s, asking(s))
		want(t, New(false, ""), s, answering(s))
	}
	for _, s := range []string{fill(4001), fill(9000), get + fill(4001-len(get)), strings.Repeat("x\n", 2001), fill(4000) + "\n", fill(3999) + "\n\n", fill(3998) + "\n\r\n"} {
		want(t, New(true, ""), s, bad(true, api.ErrLong))
		want(t, New(true, ""), strings.Repeat("\n", 4000)+s, bad(true, api.ErrLong))
		want(t, New(false, ""), s, bad(false, api.ErrLong))
	}
	want(t, New(true, ""), fill(3998)+"\n\n", bad(true, api.ErrStart))
	want(t, New(false, ""), fill(3997)+"\n\r\n", bad(false, api.ErrStart))
}

// P10.1: a first line that is none, of a request and of an answer.
func TestWrongFirstLines(t *testing.T) {
	for _, line := range []string{"x", " ", "GET", "GET /x", "GET /x HTTP/1.2", "GET  /x HTTP/1.1", "GET x HTTP/1.1", "G T /x HTTP/1.1", "get /x http/1.1", " GET /x HTTP/1.1", "GET /x HTTP/1.1 ", "GET /" + fill(500) + " HTTP/1.1", "a: b", "HTTP/1.1 99 r", "HTTP/1.1 600 r", "HTTP/2 200 r", "HTTP/1.1 200  r", "HTTP/1.1 200 " + fill(101), "\x00", fill(3000)} {
		for _, asks := range []bool{true, false} {
			want(t, New(asks, ""), line+"\r\n\r\n", bad(asks, api.ErrStart))
			want(t, New(asks, ""), line+"\na: b\nContent-Length: 5\n\nabcde"+get, bad(asks, api.ErrStart))
		}
	}
	want(t, New(true, ""), ok+"\r\n", bad(true, api.ErrStart))
	want(t, New(false, ""), get+"\r\n", bad(false, api.ErrStart))
}

// P10.1: a field that is none, 40 fields and 41.
func TestWrongFields(t *testing.T) {
	for _, line := range []string{"a", ":", ": b", " a: b", "a : b", "a b: c", "a: \x00", "a: b\rc", "a: " + fill(1001), "\x7f: b", "GET /x HTTP/1.1", " ", "\t"} {
		for _, around := range []string{"", "c: d\r\n"} {
			want(t, New(true, ""), get+around+line+"\r\n"+around+"\r\n", bad(true, api.ErrHead))
			want(t, New(false, ""), ok+around+line+"\n"+around+"\r\n", bad(false, api.ErrHead))
		}
	}
	for count := 38; count <= 43; count++ {
		var all []string
		for _, f := range others(count) {
			all = append(all, f.Name+":"+f.Value)
		}
		s := lines(append(all, "")...)
		switch {
		case count <= 40:
			want(t, New(true, ""), get+s, asking(""), message(ask("GET", 1), others(count), ""))
			want(t, New(false, ""), "HTTP/1.1 204 r\r\n"+s, answering(""), message(answer(204, 1), others(count), ""))
		default:
			want(t, New(true, ""), get+s, bad(true, api.ErrMany))
			want(t, New(false, ""), ok+s, bad(false, api.ErrMany))
		}
	}
}

// P10.1: a body whose length is not told well, of a request and of an answer.
func TestWrongLengths(t *testing.T) {
	for fields, e := range map[string]api.Errno{
		"Content-Length: x\r\n":                                   api.ErrFrame,
		"Content-Length:\r\n":                                     api.ErrFrame,
		"Content-Length: -1\r\n":                                  api.ErrFrame,
		"Content-Length: 1\r\nContent-Length: 2\r\n":              api.ErrFrame,
		"Content-Length: 1\r\nTransfer-Encoding: chunked\r\n":     api.ErrFrame,
		"Transfer-Encoding: gzip, chunked\r\n":                    api.ErrFrame,
		"Transfer-Encoding: chunked\r\nTransfer-Encoding: x\r\n":  api.ErrFrame,
		"Content-Length: 20001\r\n":                               api.ErrLong,
		"Content-Length: 99999999999999999999\r\n":                api.ErrLong,
		"Content-Length: 20001\r\nContent-Length: 20002\r\n":      api.ErrFrame,
		"Content-Length: 20001\r\nContent-Length: 0020001\r\n":    api.ErrLong,
		"a: b\r\nContent-Length: 20001\r\ncontent-length: 20001":  api.ErrLong,
		"a: b\r\nContent-Length: 20001\r\ncontent-length: 20001x": api.ErrFrame,
	} {
		fields = strings.TrimSuffix(fields, "\r\n") + "\r\n"
		for _, behind := range []string{"", "abc", "\r\n", get + "\r\n", ok + "\r\n"} {
			want(t, New(true, ""), put+fields+"\r\n"+behind, bad(true, e))
			want(t, New(false, ""), ok+fields+"\r\n"+behind, bad(false, e))
		}
	}
	want(t, New(true, ""), "PUT /x HTTP/1.0\r\nTransfer-Encoding: chunked\r\n\r\n0\r\n\r\n", bad(true, api.ErrFrame))
	want(t, New(false, ""), "HTTP/1.0 200 r\r\nTransfer-Encoding: chunked\r\n\r\n0\r\n\r\n", bad(false, api.ErrFrame))
}

// fault is a part of a head, and the error that it has.
type fault struct {
	lines string
	bad   api.Errno
}

// P10.1: of several errors the first one in the chapter's order: the head's length, its first line, its fields, the body's length.
func TestErrorsBesideOneAnother(t *testing.T) {
	many := strings.Repeat("a:\r\n", 41)
	tooLong := strings.Repeat("a: "+fill(990)+"\r\n", 5)
	for _, asks := range []bool{true, false} {
		good, early, m := ok, "HTTP/1.1 204 r\r\n\r\n", message(answer(204, 1), nil, "")
		if asks {
			good, early, m = put, get+"\r\n", message(ask("GET", 1), nil, "")
		}
		for _, first := range []fault{{good, api.OK}, {"x\r\n", api.ErrStart}} {
			for _, fields := range []fault{{"", api.OK}, {"x\r\n", api.ErrHead}, {many, api.ErrMany}, {"x\r\n" + many, api.ErrHead}, {many[4:] + "x\r\n", api.ErrHead}, {many + "x\r\n", api.ErrMany}} {
				for _, last := range []fault{{"Content-Length: 0\r\n", api.OK}, {"Content-Length: x\r\n", api.ErrFrame}, {"Content-Length: 20001\r\n", api.ErrLong}} {
					s := first.lines + fields.lines + last.lines
					for _, behind := range []string{"", "x\r\n\r\n", fill(4001)} {
						if e := cmp.Or(first.bad, fields.bad, last.bad); e != api.OK {
							want(t, New(asks, ""), s+"\r\n"+behind, bad(asks, e))
							want(t, New(asks, ""), early+s+"\r\n"+behind, bad(asks, e), m)
						}
						want(t, New(asks, ""), early+s+tooLong+"\r\n"+behind, bad(asks, api.ErrLong), m)
					}
				}
			}
		}
	}
}

// P10.1: a body of 20000 bytes may be, one of 20001 may not, of each kind.
func TestLongBodies(t *testing.T) {
	for _, asks := range []bool{true, false} {
		r, first, s := New(asks, ""), ok, startOf(asks)
		if asks {
			first = put
		}
		want(t, r, first+"Content-Length: 20000\r\n\r\n"+fill(20000), r, message(s, one(length, "20000"), fill(20000)))
		want(t, r, first+"Content-Length: 20001\r\n\r\n"+fill(20001), bad(asks, api.ErrLong))
		chunked := first + "Transfer-Encoding: chunked\r\n\r\n"
		want(t, r, chunked+"4e20\r\n"+fill(20000)+"\r\n0\r\n\r\n", r, message(s, one(coding, "chunked"), fill(20000)))
		want(t, r, chunked+"4e21\r\n"+fill(20001)+"\r\n0\r\n\r\n", bad(asks, api.ErrLong))
		want(t, r, chunked+"2710\r\n"+fill(10000)+"\r\n2710\r\n"+fill(10000)+"\r\n0\r\n\r\n", r, message(s, one(coding, "chunked"), fill(20000)))
		want(t, r, chunked+"2710\r\n"+fill(10000)+"\r\n2711\r\n"+fill(10001)+"\r\n0\r\n\r\n", bad(asks, api.ErrLong))
		want(t, r, chunked+"4e20\r\n"+fill(20000)+"\r\n1\r\nx\r\n0\r\n\r\n", bad(asks, api.ErrLong))
	}
	r := New(false, "")
	want(t, r, ok+"\r\n"+fill(19999), inRest(fill(19999)))
	want(t, r, ok+"\r\n"+fill(20000), inRest(fill(20000)))
	want(t, r, ok+"\r\n"+fill(20001), bad(false, api.ErrLong))
	want(t, r, ok+"\r\n"+fill(50000), bad(false, api.ErrLong))
	want(t, inRest(fill(20000)), "", inRest(fill(20000)))
	want(t, inRest(fill(20000)), "x", bad(false, api.ErrLong))
	want(t, inRest(fill(19999)), "x", inRest(fill(19999)+"x"))
	want(t, inRest(fill(19999)), "xy", bad(false, api.ErrLong))
	want(t, inRest(""), fill(20001), bad(false, api.ErrLong))
}

// P10.1: a chunk that is none.
func TestWrongChunks(t *testing.T) {
	for s, e := range map[string]api.Errno{
		"\r\n": api.ErrChunk, "x\r\n": api.ErrChunk, "-1\r\n": api.ErrChunk, "3\r\nabcd\r\n": api.ErrChunk, "3\r\nabc\r\n\r\n": api.ErrChunk, "3\r\nabc\r\nx\r\n": api.ErrChunk, fill(201): api.ErrChunk, "0\r\n" + fill(201): api.ErrChunk,
		"4e21\r\n": api.ErrLong, "fffffffffff\r\n": api.ErrLong, "3\r\nabc\r\n4e1e\r\n": api.ErrLong,
	} {
		for _, behind := range []string{"", "0\r\n\r\n", "abc", get + "\r\n"} {
			want(t, New(true, ""), put+"Transfer-Encoding: chunked\r\n\r\n"+s+behind, bad(true, e))
			want(t, New(false, ""), ok+"Transfer-Encoding: chunked\r\n\r\n"+s+behind, bad(false, e))
			want(t, inChunks(true, api.Chunked{Size: 0}, ""), s+behind, bad(true, e))
			want(t, New(true, ""), get+"\r\n"+put+"Transfer-Encoding: chunked\r\n\r\n"+s+behind, bad(true, e), message(ask("GET", 1), nil, ""))
		}
	}
	want(t, inChunks(true, api.Chunked{Stage: api.CEnd, Size: 3}, "abc"), "x\n", bad(true, api.ErrChunk))
	want(t, inChunks(false, api.Chunked{Stage: api.CSize, Size: 3}, "abc"), "4e1e\n", bad(false, api.ErrLong))
}

// P10.1: messages that were whole ahead of an error are told, and bytes behind it are not read.
func TestAroundErrors(t *testing.T) {
	whole := map[bool]string{true: get + "\r\n" + put + "Content-Length: 1\r\n\r\na", false: "HTTP/1.1 204 r\r\n\r\n" + ok + "Content-Length: 1\r\n\r\na"}
	are := map[bool][]api.Message{
		true:  {message(ask("GET", 1), nil, ""), message(ask("PUT", 1), one(length, "1"), "a")},
		false: {message(answer(204, 1), nil, ""), message(answer(200, 1), one(length, "1"), "a")},
	}
	for _, asks := range []bool{true, false} {
		first := ok
		if asks {
			first = put
		}
		for s, e := range map[string]api.Errno{
			"x\r\n\r\n":                                          api.ErrStart,
			first + "x\r\n\r\n":                                  api.ErrHead,
			first + "Content-Length:\r\n\r\n":                    api.ErrFrame,
			first + "Content-Length: 20001\r\n\r\n":              api.ErrLong,
			first + "Transfer-Encoding: chunked\r\n\r\nx\r\n":    api.ErrChunk,
			first + "Transfer-Encoding: chunked\r\n\r\n4e21\r\n": api.ErrLong,
			first + strings.Repeat("a:\r\n", 41) + "\r\n":        api.ErrMany,
			fill(4001): api.ErrLong,
		} {
			for _, behind := range []string{"", whole[asks], "x\r\n\r\n", fill(5000)} {
				want(t, New(asks, ""), s+behind, bad(asks, e))
				want(t, New(asks, ""), whole[asks]+s+behind, bad(asks, e), are[asks]...)
				want(t, New(asks, ""), whole[asks]+whole[asks]+s+behind, bad(asks, e), append(slices.Clone(are[asks]), are[asks]...)...)
			}
		}
	}
}

// P10.1: a reader that stopped stays as it is.
func TestFeedStopped(t *testing.T) {
	for _, r := range stopped() {
		for _, s := range []string{"", "x", get + "\r\n", ok + "Content-Length: 0\r\n\r\n", "\r\n", "x\n\n", fill(5000)} {
			want(t, r, s, r)
		}
	}
}

// P10.1: ErrArg, if the reader may not be, with a reader and messages that are zero.
func TestFeedWrong(t *testing.T) {
	for _, r := range wrongs() {
		for _, s := range []string{"", "a", get + "\r\n", ok + "\r\n", "x\n\n", fill(4001)} {
			got, whole, e := Feed(r, s)
			if !sameReader(got, api.Reader{}) || len(whole) != 0 || e != api.ErrArg {
				t.Errorf("Feed(%s, %.40q) = %s, %s, %d; want ErrArg alone", told(r), s, told(got), toldMessages(whole), e)
			}
		}
	}
}

// P10.1: readers from which all goes on, within each kind of body, and with bytes that wait; no bytes leave a body as it is.
func TestFeedOn(t *testing.T) {
	for _, r := range within() {
		want(t, r, "", r)
	}
	want(t, inSize(true, 3, "a"), "bc", New(true, ""), message(ask("PUT", 1), one(length, "3"), "abc"))
	want(t, inSize(true, 3, "a"), "bcGET", asking("GET"), message(ask("PUT", 1), one(length, "3"), "abc"))
	want(t, inSize(false, 3, "a"), "\n", inSize(false, 3, "a\n"))
	want(t, inSize(false, 3, "a"), "bc"+ok+"\r\nd", inRest("d"), message(answer(200, 1), one(length, "3"), "abc"))
	want(t, inChunks(true, api.Chunked{Stage: api.CData, Left: 1, Size: 1}, "a"), "b\n0\n\n"+get+"\n", New(true, ""), message(ask("PUT", 1), one(coding, "chunked"), "ab"), message(ask("GET", 1), nil, ""))
	want(t, inChunks(false, api.Chunked{Stage: api.CTail, Line: "\r"}, ""), "\n", New(false, ""), message(answer(200, 1), one(coding, "chunked"), ""))
	want(t, inRest("a"), "\r\n\r\n", inRest("a\r\n\r\n"))

	want(t, asking("GET /x HT"), "TP/1.1\n\n", New(true, ""), message(ask("GET", 1), nil, ""))
	want(t, asking("\r"), "\n"+get+"\n", New(true, ""), message(ask("GET", 1), nil, ""))
	want(t, asking(get+"\r"), "\n", New(true, ""), message(ask("GET", 1), nil, ""))
	want(t, answering(ok), "Content-Length: 1\n\na", New(false, ""), message(answer(200, 1), one(length, "1"), "a"))
	want(t, asking(fill(4000)), "", asking(fill(4000)))
	want(t, asking(fill(4000)), "x", bad(true, api.ErrLong))
}

// P10.1: what waits may be more than reading on would leave there: it is read, even where no bytes come behind it.
func TestFeedMuchThatWaits(t *testing.T) {
	for _, s := range []string{"", get, "x"} {
		want(t, asking(get+"\r\n"+get+"\r\n\r\n"), s, asking(s), message(ask("GET", 1), nil, ""), message(ask("GET", 1), nil, ""))
		want(t, asking(strings.Repeat("\n", 4000)), s, asking(s))
		want(t, asking("x\n\n"), s, bad(true, api.ErrStart))
		want(t, answering("\n"), s, bad(false, api.ErrStart))
		want(t, answering("HTTP/1.1 100 r\n\n"), s, answering(s))
		want(t, answering("HTTP/1.1 204 r\n\n"), s, answering(s), message(answer(204, 1), nil, ""))
		want(t, answering(ok+"\n"), s, inRest(s))
		want(t, answering(ok+"\na"), s, inRest("a"+s))
	}
}

// model reads byte by byte, as the chapter's words say it, and keeps a head as its lines.
type model struct {
	api.Reader
	lines []string
	line  string
	whole []api.Message
}

func (m *model) readByte(c byte) {
	switch {
	case m.Bad != api.OK:
	case m.In:
		m.readOfBody(c)
	default:
		m.readOfHead(c)
	}
}

func (m *model) readOfHead(c byte) {
	m.line += string([]byte{c})
	empty := m.line == "\n" || m.line == "\r\n"
	switch {
	case empty && m.Asks && len(m.lines) == 0:
		m.line = ""
	case len(strings.Join(m.lines, ""))+len(m.line) > 4000:
		m.stop(api.ErrLong)
	case c == '\n':
		m.lines = append(m.lines, m.line)
		m.line = ""
		if empty {
			m.endHead()
		}
	}
}

func (m *model) endHead() {
	all := m.lines
	m.lines = nil
	first := strings.TrimSuffix(strings.TrimSuffix(all[0], "\n"), "\r")
	s, e := start.Status(first)
	if m.Asks {
		s, e = start.Parse(first)
	}
	if e != api.OK {
		m.stop(e)
		return
	}
	l, e := head.Parse(strings.Join(all[1:len(all)-1], ""))
	if e != api.OK {
		m.stop(e)
		return
	}
	b, e := frame.Answer(s, l, m.Method)
	if m.Asks {
		b, e = frame.Request(s, l)
	}
	switch {
	case e != api.OK:
		m.stop(e)
	case !m.Asks && s.Code < 200:
	default:
		m.In, m.Head, m.Body = true, message(s, l, ""), b
		m.endBody(b.Kind == 0 || b == api.Body{Kind: 1})
	}
}

func (m *model) readOfBody(c byte) {
	switch m.Body.Kind {
	case 1:
		m.Head.Body += string([]byte{c})
		m.endBody(len(m.Head.Body) == m.Body.Size)
	case 2:
		next, data, _, e := chunk.Feed(m.Chunk, string([]byte{c}))
		if e != api.OK {
			m.stop(e)
			return
		}
		m.Chunk = next
		m.Head.Body += data
		m.endBody(next.Stage == 4)
	case 3:
		m.Head.Body += string([]byte{c})
		if len(m.Head.Body) > 20000 {
			m.stop(api.ErrLong)
		}
	}
}

func (m *model) endBody(is bool) {
	if is {
		m.whole = append(m.whole, m.Head)
		m.Reader = api.Reader{Asks: m.Asks, Method: m.Method}
	}
}

func (m *model) stop(e api.Errno) {
	*m = model{Reader: api.Reader{Asks: m.Asks, Method: m.Method, Bad: e}, whole: m.whole}
}

// wantAsModel has bytes be read as the model does, at once and byte by byte; it tells whether messages came, and whether an error.
func wantAsModel(t *testing.T, r api.Reader, s string) (bool, bool) {
	t.Helper()
	m := model{Reader: r}
	m.Head.Fields = slices.Clone(r.Head.Fields)
	m.line, m.Buf = "", ""
	for at := range len(s) {
		m.readByte(s[at])
	}
	if m.Bad == api.OK && !m.In {
		m.Buf = strings.Join(m.lines, "") + m.line
	}
	for _, size := range []int{len(s) + 1, 1} {
		got, whole, e := feedPieces(t, r, cut(s, size)...)
		if !sameReader(got, m.Reader) || !sameMessages(whole, m.whole) || e != api.OK {
			t.Errorf("of %s, %.200q in pieces of %d, = %s, %s, %d; want %s, %s", told(r), s, size, told(got), toldMessages(whole), e, told(m.Reader), toldMessages(m.whole))
		}
	}
	return len(m.whole) > 0, m.Bad != api.OK
}

// eachText hands on all texts of up to so many of the parts.
func eachText(parts []string, most int, do func(s string)) {
	do("")
	if most == 0 {
		return
	}
	for _, p := range parts {
		eachText(parts, most-1, func(s string) { do(p + s) })
	}
}

// P10.1, P10.4: all texts of up to so many of these parts are read as the model reads them.
func TestAllShort(t *testing.T) {
	told, stopped := 0, 0
	count := func(came, bad bool) {
		if came {
			told++
		}
		if bad {
			stopped++
		}
	}
	requests := []string{"GET / HTTP/1.1\n", "\n", "\r\n", "\r", "a:b\r\n", "Content-Length: 2\n", "Transfer-Encoding: chunked\n", "0\n", "ab"}
	eachText(requests, 5, func(s string) { count(wantAsModel(t, New(true, ""), s)) })
	answers := []string{"HTTP/1.1 200\n", "HTTP/1.1 100 \r\n", "HTTP/1.0 204 N\n", "\n", "\r\n", "Content-Length: 2\n", "Transfer-Encoding: chunked\n", "1\na\n0\n\n"}
	eachText(answers, 5, func(s string) { count(wantAsModel(t, New(false, ""), s)) })
	eachText(answers, 3, func(s string) { count(wantAsModel(t, New(false, "HEAD"), s)) })
	eachText(answers, 4, func(s string) { count(wantAsModel(t, inChunks(false, api.Chunked{}, ""), s)) })
	eachText(requests, 4, func(s string) { count(wantAsModel(t, inSize(true, 3, "a"), s)) })
	if told == 0 || stopped == 0 {
		t.Errorf("%d texts have messages and %d errors: this test tells nothing", told, stopped)
	}
}

// P10.1, P10.4: texts with a byte left out, put in or put in another's place.
func TestNearby(t *testing.T) {
	check := func(s string) { wantAsModel(t, New(true, ""), s); wantAsModel(t, New(false, ""), s) }
	for _, s := range []string{
		"\r\n" + put + "Content-Length: 3\r\n\r\nabc\r\n" + put + "Transfer-Encoding: chunked\r\n\r\n1\r\na\r\n0\r\n\r\n" + get + "\r\n",
		"HTTP/1.1 100 r\r\n\r\n" + ok + "Content-Length: 3\r\n\r\nabc" + ok + "Transfer-Encoding: chunked\r\n\r\n1\r\na\r\n0\r\n\r\n" + ok + "\r\nrest",
	} {
		check(s)
		for at := range len(s) {
			check(s[:at] + s[at+1:])
			check(s[:at])
			check(s[at:])
			for _, c := range []string{"\r", "\n", "\r\n", "\n\n", " ", ":", "0", "x", "\x00", "\xff"} {
				check(s[:at] + c + s[at:])
				check(s[:at] + c + s[at+1:])
			}
		}
	}
}

// P10.1, P10.4: each byte, everywhere in a head and a body.
func TestAnyBytes(t *testing.T) {
	for n := range 256 {
		c := oneByte(n)
		for _, s := range []string{c, c + c, c + get + "\r\n", "GET" + c + "/x HTTP/1.1\r\n\r\n", "GET /x" + c + " HTTP/1.1\r\n\r\n", "GET /x HTTP/1.1" + c + "\r\n\r\n", "GET /x HTTP/1.1\r" + c + "\r\n", get + c + "\r\n\r\n", get + c + "a: b\r\n\r\n", get + "a" + c + ": b\r\n\r\n", get + "a:" + c + "b\r\n\r\n", get + "a: b" + c + "\r\n\r\n", get + "a: b\r\n" + c + "\r\n", get + "a: b\r\n\r" + c, put + "Content-Length: 2" + c + "\r\n\r\nab", put + "Content-Length: 2\r\n\r\n" + c + c + c, put + "Transfer-Encoding: chunked\r\n\r\n1" + c + "\r\n" + c + "\r\n0\r\n\r\n", put + "Transfer-Encoding: chunked\r\n\r\n1\r\n" + c + "\r\n0" + c + "\r\n" + c + "\r\n\r\n"} {
			wantAsModel(t, New(true, ""), s)
			answers := strings.NewReplacer(get, ok, put, ok, "GET", "HTTP/1.1", "/x", "200", " HTTP/1.1\r\n", " r\r\n").Replace(s)
			wantAsModel(t, New(false, ""), answers)
		}
	}
	wantAsModel(t, New(true, ""), everyByte())
	wantAsModel(t, New(false, ""), everyByte()+everyByte())
}

// P10.4: texts of several messages, and of errors, in any three pieces, are read as at once.
func TestAnyPieces(t *testing.T) {
	for _, s := range []string{
		"\r\n\n" + put + "Content-Length: 3\r\n\r\nabc\r\n" + put + "Transfer-Encoding: chunked\r\n\r\n1\r\na\r\n0\r\nt\r\n\r\n" + get + "a: b\n\r\nG",
		"HTTP/1.1 100 r\r\n\r\n" + ok + "Content-Length: 3\r\n\r\nabc" + "HTTP/1.1 204 r\n\n" + ok + "Transfer-Encoding: chunked\r\n\r\n1\r\na\r\n0\r\n\r\n" + ok + "\r\nrest",
		get + "\r\nx\r\n\r\n" + get + "\r\n",
		ok + "Transfer-Encoding: chunked\r\n\r\n1\r\nabc\r\n" + ok,
	} {
		for _, asks := range []bool{true, false} {
			end, whole, _ := Feed(New(asks, ""), s)
			for a := range len(s) + 1 {
				for b := a; b <= len(s); b++ {
					got, all, e := feedPieces(t, New(asks, ""), s[:a], s[a:b], s[b:])
					if !sameReader(got, end) || !sameMessages(all, whole) || e != api.OK {
						t.Fatalf("%q in the pieces %d, %d, %d: %s, %s, %d; at once %s, %s", s, a, b-a, len(s)-b, told(got), toldMessages(all), e, told(end), toldMessages(whole))
					}
				}
			}
		}
	}
}

// P10.4: much in many pieces.
func TestManyPieces(t *testing.T) {
	data := strings.Repeat(everyByte(), 78) + fill(32)
	s := put + "Content-Length: 20000\r\n\r\n" + data + put + "Transfer-Encoding: chunked\r\n\r\n" + chunk.Encode(data[:9]) + chunk.Encode(data[9:]) + chunk.End() + headOf("GET /x HTTP/1.1", 4000)
	end, whole, _ := Feed(New(true, ""), s)
	if len(whole) != 3 || whole[0].Body != data || whole[1].Body != data || !sameReader(end, New(true, "")) {
		t.Fatalf("at once: %s, %s", told(end), toldMessages(whole))
	}
	for _, size := range []int{1, 2, 3, 7, 100, 3999, 4000, 4001, 19999, 20000, 30000} {
		got, all, e := feedPieces(t, New(true, ""), cut(s, size)...)
		if !sameReader(got, end) || !sameMessages(all, whole) || e != api.OK {
			t.Errorf("in pieces of %d bytes: %s, %s, %d", size, told(got), toldMessages(all), e)
		}
	}
}

// R1, R4: no row that is handed in is changed, nor what lies behind it; no answer shares it, and no two rows of one answer are the same.
func TestFeedRowsStay(t *testing.T) {
	for _, r := range within() {
		all := append(slices.Clone(r.Head.Fields), one("behind", "1")...)
		before := slices.Clone(all)
		r.Head.Fields = all[:len(all)-1]
		for _, s := range []string{"", "a", "1\r\na", "0\r\n\r\n", fill(30000)} {
			first, whole, _ := Feed(r, s)
			second, again, _ := Feed(r, s)
			if !sameReader(first, second) || !sameMessages(whole, again) {
				t.Errorf("Feed(%s, %.40q) = %s, %s, then %s, %s", told(r), s, told(first), toldMessages(whole), told(second), toldMessages(again))
			}
			spoil(first, whole)
			if third, more, _ := Feed(r, s); !sameReader(second, third) || !sameMessages(again, more) {
				t.Errorf("what is done to an answer of Feed(%s, %.40q) changes others", told(r), s)
			}
			if !slices.Equal(all, before) {
				t.Fatalf("Feed(%s, %.40q), or what is done to its answer, changed %s to %s", told(r), s, toldRow(before), toldRow(all))
			}
		}
	}
	s := strings.Repeat(get+"a: b\r\n\r\n", 3)
	_, whole, _ := Feed(New(true, ""), s)
	row := whole[0].Fields
	clear(row[:cap(row)])
	if whole[1].Fields[0] != one("a", "b")[0] || whole[2].Fields[0] != one("a", "b")[0] {
		t.Errorf("messages of one answer share their rows")
	}
}

func spoil(r api.Reader, l []api.Message) {
	row := r.Head.Fields
	clear(row[:cap(row)])
	for _, m := range l {
		clear(m.Fields[:cap(m.Fields)])
	}
	clear(l[:cap(l)])
}

// P1: a call ends soon, whatever is handed in.
func TestMuch(t *testing.T) {
	want := func(r api.Reader, s string, count int, e api.Errno) {
		t.Helper()
		got, whole, was := Feed(r, s)
		if len(whole) != count || got.Bad != e || was != api.OK {
			t.Errorf("of %d bytes: %d messages, %s, %d; want %d, %d", len(s), len(whole), told(got), was, count, e)
		}
	}
	want(New(true, ""), strings.Repeat("\n", 16*long), 0, api.OK)
	want(New(true, ""), strings.Repeat("\r\n", 8*long), 0, api.OK)
	want(New(true, ""), strings.Repeat(get+"\n", long/4), long/4, api.OK)
	want(New(false, ""), strings.Repeat("HTTP/1.1 100\n\n", long/4), 0, api.OK)
	want(New(false, ""), strings.Repeat("HTTP/1.1 204\n\n", long/4), long/4, api.OK)
	want(New(true, ""), strings.Repeat(put+"Transfer-Encoding: chunked\n\n1\na\n0\n\n", long/16), long/16, api.OK)
	want(New(true, ""), strings.Repeat("x", 16*long), 0, api.ErrLong)
	want(New(false, ""), strings.Repeat("\x00", 16*long), 0, api.ErrLong)
	want(New(false, ""), ok+"\n"+strings.Repeat("\n", 16*long), 0, api.ErrLong)
	want(New(true, ""), put+"Transfer-Encoding: chunked\n\n"+strings.Repeat("\n", 16*long), 0, api.ErrChunk)
	want(New(true, ""), put+"Transfer-Encoding: chunked\n\n0\n"+strings.Repeat("x\n", 8*long), 0, api.OK)
}
