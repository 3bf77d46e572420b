package wire

import (
	"math"
	"slices"
	"strconv"
	"strings"
	"testing"

	"intarsia/api"
)

func wantWrite(t *testing.T, m api.Message, chunks bool, want string) {
	t.Helper()
	if got, bad := Write(m, chunks); got != want || bad != api.OK {
		t.Errorf("Write(%s, %t) = %.300q, %d; want %.300q", toldMessage(m), chunks, got, bad, want)
	}
}

// wantWriteBad has the error be told with no bytes, in chunks and not.
func wantWriteBad(t *testing.T, m api.Message, want api.Errno) {
	t.Helper()
	for _, chunks := range []bool{true, false} {
		if got, bad := Write(m, chunks); got != "" || bad != want {
			t.Errorf("Write(%s, %t) = %.100q, %d; want the error %d alone", toldMessage(m), chunks, got, bad, want)
		}
	}
}

// asChunks is a body in chunks, by the document's words.
func asChunks(body string) string {
	if body == "" {
		return "0\r\n\r\n"
	}
	return strconv.FormatInt(int64(len(body)), 16) + "\r\n" + body + "\r\n0\r\n\r\n"
}

// firstLines are first lines that may be, as they are written.
func firstLines() map[string]api.Start {
	return map[string]api.Start{
		"GET /x HTTP/1.1":                                ask("GET", 1),
		"HEAD /x HTTP/1.0":                               ask("HEAD", 0),
		"OPTIONS * HTTP/1.1":                             {Method: "OPTIONS", Target: "*", Minor: 1},
		"POST http://h:80/x?y HTTP/1.1":                  {Method: "POST", Target: "http://h:80/x?y", Minor: 1},
		fill(20) + " /" + fill(499) + " HTTP/1.1":        {Method: fill(20), Target: "/" + fill(499), Minor: 1},
		"HTTP/1.1 200 OK":                                {Code: 200, Reason: "OK", Minor: 1},
		"HTTP/1.1 200 ":                                  {Code: 200, Minor: 1},
		"HTTP/1.0 404 Not Found":                         {Code: 404, Reason: "Not Found"},
		"HTTP/1.1 100 Continue":                          {Code: 100, Reason: "Continue", Minor: 1},
		"HTTP/1.1 204 No Content":                        {Code: 204, Reason: "No Content", Minor: 1},
		"HTTP/1.1 304 Not Modified":                      {Code: 304, Reason: "Not Modified", Minor: 1},
		"HTTP/1.1 599 " + strings.Repeat("\xc3\xa9", 50): {Code: 599, Reason: strings.Repeat("é", 50), Minor: 1},
	}
}

// bodies are some, of each length that is written in another way.
func bodies() []string {
	return []string{"", "a", "ab", "\r\n", "\r\n\r\n", "0\r\n\r\n", "GET /x HTTP/1.1\r\n\r\n", "HTTP/1.1 200 OK\r\n\r\n", fill(9), fill(10), fill(15), fill(16), everyByte(), strings.Repeat("\n", 4001), fill(19999), fill(20000)}
}

// P10.3: requests and answers, with and without a body, in chunks and not.
func TestWrite(t *testing.T) {
	for first, s := range firstLines() {
		for _, body := range bodies() {
			n := strconv.Itoa(len(body))
			wantWrite(t, message(s, nil, body), false, lines(first, "Content-Length: "+n, "")+body)
			wantWrite(t, message(s, nil, body), true, lines(first, "Transfer-Encoding: chunked", "")+asChunks(body))
			l := []api.Field{{Name: "Host", Value: "h"}, {Name: "a", Value: ""}, {Name: "A", Value: "x\t \xff"}}
			wantWrite(t, message(s, l, body), false, lines(first, "Host: h", "a: ", "A: x\t \xff", "Content-Length: "+n, "")+body)
			wantWrite(t, message(s, l, body), true, lines(first, "Host: h", "a: ", "A: x\t \xff", "Transfer-Encoding: chunked", "")+asChunks(body))
		}
	}
	wantWrite(t, api.Message{Start: api.Start{Code: 200, Reason: "OK", Minor: 1}, Body: "ab"}, true, "HTTP/1.1 200 OK\r\nTransfer-Encoding: chunked\r\n\r\n2\r\nab\r\n0\r\n\r\n")
	wantWrite(t, api.Message{Start: ask("GET", 1), Fields: []api.Field{}}, false, "GET /x HTTP/1.1\r\nContent-Length: 0\r\n\r\n")
}

// P10.3: each size of a body.
func TestWriteSizes(t *testing.T) {
	all := strings.Repeat(everyByte(), 79)
	for size := 0; size <= 20000; size++ {
		n, digits := strconv.Itoa(size), strconv.FormatInt(int64(size), 16)
		body := all[:size]
		wantWrite(t, message(answer(200, 1), nil, body), false, "HTTP/1.1 200 r\r\nContent-Length: "+n+"\r\n\r\n"+body)
		if size > 0 {
			wantWrite(t, message(answer(200, 1), nil, body), true, "HTTP/1.1 200 r\r\nTransfer-Encoding: chunked\r\n\r\n"+digits+"\r\n"+body+"\r\n0\r\n\r\n")
		}
	}
}

// P10.3: fields that already say how long it is go, whatever they say, and what is said now stands behind all others.
func TestWriteLengthsGo(t *testing.T) {
	for _, said := range [][]api.Field{
		one(length, "7"), one(length, "0"), one(length, "x"), one(length, ""), one(length, "20001"), one("CONTENT-length", "7"), one(coding, "chunked"), one(coding, "gzip"), one("transfer-ENCODING", ""),
		append(one(length, "7"), one(length, "8")...), append(one(coding, "chunked"), one(length, "7")...),
	} {
		for _, l := range [][]api.Field{said, slices.Concat(one("a", "b"), said, one("c", "d")), slices.Concat(said, one("a", "b"), one("c", "d")), slices.Concat(one("a", "b"), one("c", "d"), said)} {
			var stays []string
			if len(l) > len(said) {
				stays = []string{"a: b", "c: d"}
			}
			for _, s := range []string{"", "ab"} {
				of := func(said string) string {
					return lines(slices.Concat([]string{"PUT /x HTTP/1.1"}, stays, []string{said, ""})...)
				}
				wantWrite(t, message(ask("PUT", 1), l, s), false, of("Content-Length: "+strconv.Itoa(len(s)))+s)
				wantWrite(t, message(ask("PUT", 1), l, s), true, of("Transfer-Encoding: chunked")+asChunks(s))
			}
		}
	}
}

// wrongStarts are first lines that may not be.
func wrongStarts() []api.Start {
	return []api.Start{
		{}, {Minor: 1}, ask("", 1), ask("G T", 1), ask("GET\r\n", 1), ask(fill(21), 1), ask("GET", 2), ask("GET", -1), ask("GET", math.MaxInt),
		{Method: "GET", Minor: 1}, {Method: "GET", Target: "x", Minor: 1}, {Method: "GET", Target: "/ ", Minor: 1}, {Method: "GET", Target: "/\n", Minor: 1}, {Method: "GET", Target: "/" + fill(500), Minor: 1}, {Method: "GET", Target: "/", Reason: "OK", Minor: 1}, {Method: "GET", Target: "/", Code: 200, Minor: 1},
		answer(99, 1), answer(600, 1), answer(-200, 1), answer(200, 2), answer(200, -1), answer(math.MinInt, 1),
		{Code: 200, Reason: " ", Minor: 1}, {Code: 200, Reason: "O\r\nK", Minor: 1}, {Code: 200, Reason: fill(101), Minor: 1},
	}
}

// wrongRows are rows that may not be.
func wrongRows() [][]api.Field {
	return [][]api.Field{
		one("", ""), one("", "b"), one("a b", "b"), one("a:", "b"), one("a\n", "b"), one("a", " b"), one("a", "b\t"), one("a", "\r\n"), one("a", "b\nc: d"), one("a", "\x00"), one("a", "\x7f"), one("a", fill(1001)),
		one(length, "7 "), one(length, "\n"), one(coding, fill(1001)),
		others(41), append(others(40), one(length, "0")...), append(one(coding, "chunked"), others(40)...), others(1000),
		append(one("a", "b"), api.Field{}), append(others(39), one("a", "b ")...),
	}
}

// P10.3: ErrArg, if Start may not be, Fields may not be, or Body has more than 20000 bytes, by each of these alone and beside the others.
func TestWriteWrong(t *testing.T) {
	starts := append(wrongStarts(), ask("GET", 1), answer(200, 1))
	rows := append(wrongRows(), nil, one("a", "b"), others(40))
	for at, s := range starts {
		for is, l := range rows {
			for _, body := range []string{"", "a", fill(20000), fill(20001), fill(30000)} {
				if at < len(starts)-2 || is < len(rows)-3 || len(body) > 20000 {
					wantWriteBad(t, message(s, l, body), api.ErrArg)
				}
			}
		}
	}
	wantWriteBad(t, message(ask("GET", 1), nil, fill(long)), api.ErrArg)
	wantWriteBad(t, message(answer(200, 1), nil, fill(20001)), api.ErrArg)
	wantWriteBad(t, api.Message{}, api.ErrArg)
}

// P10.3: ErrMany, if 40 others stand there; what goes makes room.
func TestWriteMany(t *testing.T) {
	for count := 37; count <= 41; count++ {
		for gone := 0; gone <= 3; gone++ {
			for _, name := range []string{length, "transfer-encoding"} {
				said := slices.Repeat(one(name, "7"), gone)
				for _, l := range [][]api.Field{append(others(count), said...), append(slices.Clone(said), others(count)...)} {
					for _, s := range []api.Start{ask("GET", 1), answer(200, 1)} {
						wantWriteOfMany(t, message(s, l, "abc"), count)
					}
				}
			}
		}
	}
}

// wantWriteOfMany is of a row with so many others.
func wantWriteOfMany(t *testing.T, m api.Message, count int) {
	t.Helper()
	switch {
	case len(m.Fields) > 40:
		wantWriteBad(t, m, api.ErrArg)
	case count == 40:
		wantWriteBad(t, m, api.ErrMany)
	default:
		first := "GET /x HTTP/1.1"
		if m.Start.Code != 0 {
			first = "HTTP/1.1 200 r"
		}
		all := []string{first}
		for _, f := range others(count) {
			all = append(all, f.Name+": "+f.Value)
		}
		wantWrite(t, m, false, lines(append(slices.Clone(all), "Content-Length: 3", "")...)+"abc")
		wantWrite(t, m, true, lines(append(slices.Clone(all), "Transfer-Encoding: chunked", "")...)+"3\r\nabc\r\n0\r\n\r\n")
	}
}

// rowOf has so many bytes, written.
func rowOf(count int) []api.Field {
	var l []api.Field
	for count > 1004 {
		l = append(l, api.Field{Name: "a", Value: fill(800)})
		count -= 805
	}
	return append(l, api.Field{Name: "a", Value: fill(count - 5)})
}

// P10.3: ErrLong, if the fields have more than 4000 bytes, written with what is said of the body; the first line does not count.
func TestWriteLong(t *testing.T) {
	sized, chunked := len("Content-Length: 3\r\n"), len("Transfer-Encoding: chunked\r\n")
	for count := 3950; count <= 4010; count++ {
		for _, l := range [][]api.Field{rowOf(count), append(rowOf(count), one(length, fill(1000))...), append(one(coding, "chunked"), rowOf(count)...)} {
			for _, s := range []api.Start{ask("GET", 1), answer(200, 1), {Method: fill(20), Target: "/" + fill(499), Minor: 1}} {
				wantWriteOfLength(t, message(s, l, "abc"), false, count+sized <= 4000)
				wantWriteOfLength(t, message(s, l, "abc"), true, count+chunked <= 4000)
			}
		}
	}
	wantWriteBad(t, message(ask("GET", 1), slices.Repeat(one("a", fill(1000)), 39), ""), api.ErrLong)
	wantWriteBad(t, message(ask("GET", 1), slices.Repeat(one(fill(5000), ""), 39), ""), api.ErrLong)
	// Of both errors ErrMany comes first, and ErrArg ahead of it.
	wantWriteBad(t, message(ask("GET", 1), slices.Repeat(one("a", fill(1000)), 40), ""), api.ErrMany)
	wantWriteBad(t, message(ask("GET", 2), slices.Repeat(one("a", fill(1000)), 40), ""), api.ErrArg)
	wantWriteBad(t, message(ask("GET", 1), slices.Repeat(one("a", fill(1000)), 39), fill(20001)), api.ErrArg)
	wantWriteBad(t, message(ask("GET", 1), others(40), fill(20001)), api.ErrArg)
	// What goes does not count.
	wantWrite(t, message(ask("GET", 1), slices.Repeat(one(length, fill(1000)), 40), ""), false, lines("GET /x HTTP/1.1", "Content-Length: 0", ""))
}

func wantWriteOfLength(t *testing.T, m api.Message, chunks, want bool) {
	t.Helper()
	got, bad := Write(m, chunks)
	if want && (got == "" || bad != api.OK) || !want && (got != "" || bad != api.ErrLong) {
		t.Errorf("Write(%s, %t) = %d bytes, %d; want %t", toldMessage(m), chunks, len(got), bad, want)
	}
}

// behinds are what may stand behind a message.
func behinds() []string {
	return []string{
		"", "\r", "\n", "\r\n", "\r\n\r\n", "x", "\x00", "abc\n", ":", "0\r\n\r\n", "3\r\nabc\r\n", "a: b\r\n\r\n", "GET", "GET /x HTTP/1.1\r\n", "GET /x HTTP/1.1\r\n\r\n", "HTTP/1.1 200 r\r\n\r\nabc", "HTTP/1.1 200 r\r\nContent-Length: 2\r\n\r\nab\r\n", "HTTP/1.1 100 r\r\n\r\n", "PUT /x HTTP/1.1\r\nTransfer-Encoding: chunked\r\n\r\n", "Content-Length: 5\r\n\r\n",
		everyByte(), fill(4000), fill(4001), strings.Repeat("\n", 5000),
	}
}

// wantReadAgain has what is written be read as one message, and what stands behind be read as if it stood alone.
func wantReadAgain(t *testing.T, m api.Message, chunks bool) {
	t.Helper()
	s, bad := Write(m, chunks)
	if bad != api.OK {
		t.Errorf("Write(%s, %t) tells %d", toldMessage(m), chunks, bad)
		return
	}
	of := api.Field{Name: "Content-Length", Value: strconv.Itoa(len(m.Body))}
	if chunks {
		of = api.Field{Name: "Transfer-Encoding", Value: "chunked"}
	}
	want := message(m.Start, append(stays(m.Fields), of), m.Body)
	r := New(m.Start.Code == 0, "GET")
	for _, behind := range behinds() {
		next, more, _ := Feed(r, behind)
		got, whole, bad := Feed(r, s+behind)
		if !sameReader(got, next) || !sameMessages(whole, append([]api.Message{want}, more...)) || bad != api.OK {
			t.Errorf("Feed of what Write(%s, %t) gives, %.60q behind it, = %s, %s, %d", toldMessage(m), chunks, behind, told(got), toldMessages(whole), bad)
		}
	}
	pieces := cut(s, 1+len(s)/200)
	if got, whole, bad := feedPieces(t, r, pieces...); !sameReader(got, r) || !sameMessages(whole, []api.Message{want}) || bad != api.OK {
		t.Errorf("in %d pieces, what Write(%s, %t) gives is %s, %s, %d", len(pieces), toldMessage(m), chunks, told(got), toldMessages(whole), bad)
	}
}

// stays are the fields that say nothing of a body.
func stays(l []api.Field) []api.Field {
	var l2 []api.Field
	for _, f := range l {
		if name := strings.ToLower(f.Name); name != "content-length" && name != "transfer-encoding" {
			l2 = append(l2, f)
		}
	}
	return l2
}

// P10.4: what is written is read again, as one message, whatever stands behind.
func TestWrittenIsReadAgain(t *testing.T) {
	for _, s := range firstLines() {
		if s.Code > 0 && s.Code < 200 || s.Code == 204 || s.Code == 304 {
			continue
		}
		for _, l := range [][]api.Field{nil, one("a", ""), one("Host", "h"), one(length, "7"), append(one(coding, "gzip"), one("b", "c\t d")...), others(39), append(others(38), one("content-length", "x")...), append(others(39), one(coding, "")...)} {
			for _, body := range bodies() {
				wantReadAgain(t, message(s, l, body), false)
				if s.Minor == 1 {
					wantReadAgain(t, message(s, l, body), true)
				}
			}
		}
	}
}

// P10.4: each Code from 200 on, but 204 and 304.
func TestWrittenCodesAgain(t *testing.T) {
	for code := 200; code <= 599; code++ {
		if code == 204 || code == 304 {
			continue
		}
		wantReadAgain(t, message(answer(code, 0), nil, "abc"), false)
		wantReadAgain(t, message(answer(code, 1), one("a", "b"), "abc"), true)
	}
}

// P10.4: each byte as a body.
func TestWrittenBytesAgain(t *testing.T) {
	for n := range 256 {
		for _, body := range []string{oneByte(n), oneByte(n) + oneByte(n), "a" + oneByte(n), oneByte(n) + "a"} {
			wantReadAgain(t, message(ask("PUT", 1), nil, body), false)
			wantReadAgain(t, message(ask("PUT", 1), nil, body), true)
			wantReadAgain(t, message(answer(200, 1), nil, body), false)
			wantReadAgain(t, message(answer(200, 1), nil, body), true)
		}
	}
}

// P10.4: a head of at most 4000 bytes is read again, one of more is not.
func TestWrittenHeadsAgain(t *testing.T) {
	first := len("PUT /x HTTP/1.1\r\n")
	for count := 3900; count <= 4000; count++ {
		for _, chunks := range []bool{true, false} {
			m := message(ask("PUT", 1), rowOf(count), "abc")
			of := len("Content-Length: 3\r\n")
			if chunks {
				of = len("Transfer-Encoding: chunked\r\n")
			}
			switch all := first + count + of + 2; {
			case all <= 4000:
				wantReadAgain(t, m, chunks)
			case count+of <= 4000:
				s, bad := Write(m, chunks)
				r, whole, _ := Feed(New(true, ""), s)
				if s == "" || bad != api.OK || len(whole) != 0 || r.Bad != api.ErrLong {
					t.Errorf("a head of %d bytes is written (%d bytes, %d), and read as %s, %s", all, len(s), bad, told(r), toldMessages(whole))
				}
			}
		}
	}
}

// R1, R4: no row that is handed in is changed, nor what lies behind it; the same call answers the same.
func TestWriteRowsStay(t *testing.T) {
	for _, l := range [][]api.Field{nil, one("a", "b"), one(length, "7"), append(one(length, "7"), others(3)...), append(others(3), one(coding, "x")...), others(40)} {
		all := slices.Concat(l, one("behind", "1"), one(length, "9"))
		before := slices.Clone(all)
		m := message(ask("PUT", 1), all[:len(l)], "abc")
		for _, chunks := range []bool{true, false} {
			first, bad := Write(m, chunks)
			second, badAgain := Write(m, chunks)
			if first != second || bad != badAgain {
				t.Errorf("Write(%s, %t) = %q, %d, then %q, %d", toldMessage(m), chunks, first, bad, second, badAgain)
			}
		}
		if !slices.Equal(all, before) {
			t.Errorf("calls changed %s to %s", toldRow(before), toldRow(all))
		}
	}
}
