package wire

import (
	"fmt"
	"math"
	"slices"
	"strconv"
	"strings"
	"testing"

	"intarsia/api"
	"intarsia/frame"
)

const (
	length = "Content-Length"
	coding = "Transfer-Encoding"
	// long is far beyond any limit.
	long = 1 << 20
)

func fill(count int) string { return strings.Repeat("x", count) }

func oneByte(n int) string { return string([]byte{byte(n)}) }

// everyByte has each byte once, in order.
func everyByte() string {
	var all []byte
	for n := range 256 {
		all = append(all, byte(n))
	}
	return string(all)
}

func one(name, value string) []api.Field { return []api.Field{{Name: name, Value: value}} }

// others are fields that say nothing of a body, each one another.
func others(count int) []api.Field {
	var l []api.Field
	for n := range count {
		l = append(l, api.Field{Name: "X-" + strconv.Itoa(n), Value: strconv.Itoa(n)})
	}
	return l
}

func ask(method string, minor int) api.Start {
	return api.Start{Method: method, Target: "/x", Minor: minor}
}

func answer(code, minor int) api.Start { return api.Start{Code: code, Reason: "r", Minor: minor} }

func message(s api.Start, l []api.Field, body string) api.Message {
	return api.Message{Start: s, Fields: l, Body: body}
}

// lines are ended by 13 10 each.
func lines(all ...string) string {
	s := ""
	for _, line := range all {
		s += line + "\r\n"
	}
	return s
}

func sameMessage(a, b api.Message) bool {
	return a.Start == b.Start && slices.Equal(a.Fields, b.Fields) && a.Body == b.Body
}

func sameMessages(a, b []api.Message) bool { return slices.EqualFunc(a, b, sameMessage) }

func sameReader(a, b api.Reader) bool {
	return a.Asks == b.Asks && a.Method == b.Method && a.Buf == b.Buf && a.In == b.In && sameMessage(a.Head, b.Head) && a.Body == b.Body && a.Chunk == b.Chunk && a.Bad == b.Bad
}

// told is what a reader, or a message, is made of, cut short, so that a fault's report can be read.
func told(r api.Reader) string {
	return fmt.Sprintf("{Asks %t Method %.20q Buf %d:%.40q In %t Head %s Body %v Chunk {%d %d:%.20q %d %d} Bad %d}", r.Asks, r.Method, len(r.Buf), r.Buf, r.In, toldMessage(r.Head), r.Body, r.Chunk.Stage, len(r.Chunk.Line), r.Chunk.Line, r.Chunk.Left, r.Chunk.Size, r.Bad)
}

func toldMessage(m api.Message) string {
	return fmt.Sprintf("{%.40q %.40q %d %.20q %d, %s, %d:%.40q}", m.Start.Method, m.Start.Target, m.Start.Code, m.Start.Reason, m.Start.Minor, toldRow(m.Fields), len(m.Body), m.Body)
}

func toldMessages(l []api.Message) string {
	s := fmt.Sprintf("%d messages", len(l))
	for _, m := range l[:min(len(l), 6)] {
		s += " " + toldMessage(m)
	}
	return s
}

func toldRow(l []api.Field) string { return fmt.Sprintf("%d:%.20q", len(l), l[:min(len(l), 3)]) }

// inSize, inChunks and inRest are readers within a body of each kind.
func inSize(asks bool, size int, had string) api.Reader {
	r := api.Reader{Asks: asks, In: true, Body: api.Body{Kind: api.BSize, Size: size}}
	r.Head = message(startOf(asks), one(length, strconv.Itoa(size)), had)
	return r
}

func inChunks(asks bool, c api.Chunked, had string) api.Reader {
	r := api.Reader{Asks: asks, In: true, Body: api.Body{Kind: api.BChunk}, Chunk: c}
	r.Head = message(startOf(asks), one(coding, "chunked"), had)
	return r
}

func inRest(had string) api.Reader {
	r := api.Reader{In: true, Body: api.Body{Kind: api.BClose}}
	r.Head = message(startOf(false), nil, had)
	return r
}

func startOf(asks bool) api.Start {
	if asks {
		return ask("PUT", 1)
	}
	return answer(200, 1)
}

// changed is a reader with one thing done to it.
func changed(r api.Reader, do func(r *api.Reader)) api.Reader {
	r.Head.Fields = slices.Clone(r.Head.Fields)
	do(&r)
	return r
}

// errors are all that the document lists.
func errors() []api.Errno {
	return []api.Errno{api.ErrArg, api.ErrLong, api.ErrShort, api.ErrMany, api.ErrDeep, api.ErrNumber, api.ErrText, api.ErrName, api.ErrUri, api.ErrStart, api.ErrHead, api.ErrFrame, api.ErrChunk, api.ErrTag, api.ErrAttr, api.ErrNest, api.ErrExpr, api.ErrType, api.ErrFetch, api.ErrRoute, api.ErrTime, api.ErrReset, api.ErrLine}
}

// waiting are readers that have no head yet.
func waiting() []api.Reader {
	var l []api.Reader
	for _, asks := range []bool{true, false} {
		for _, method := range []string{"", "GET", "HEAD", "no token", fill(long)} {
			l = append(l, New(asks, method))
		}
		for _, buf := range []string{"\r", "G", "GET /x HTTP/1.1\r\n", "HTTP/1.1 200 OK\r", "\x00\xff", fill(3999), fill(4000), strings.Repeat("\n", 4000), "GET / HTTP/1.1\r\n\r\n", "HTTP/1.1 200 OK\n\n"} {
			r := New(asks, "")
			r.Buf = buf
			l = append(l, r)
		}
	}
	return l
}

// within are readers in a body of each kind.
func within() []api.Reader {
	l := []api.Reader{inRest(""), inRest("a"), inRest(fill(19999)), inRest(fill(20000))}
	for _, asks := range []bool{true, false} {
		l = append(l,
			inSize(asks, 1, ""), inSize(asks, 2, ""), inSize(asks, 2, "a"), inSize(asks, 20000, ""), inSize(asks, 20000, fill(19999)),
			inChunks(asks, api.Chunked{}, ""),
			inChunks(asks, api.Chunked{Line: "1"}, ""),
			inChunks(asks, api.Chunked{Stage: api.CSize, Line: fill(200), Size: 3}, "abc"),
			inChunks(asks, api.Chunked{Stage: api.CData, Left: 1}, ""),
			inChunks(asks, api.Chunked{Stage: api.CData, Left: 19997, Size: 3}, "abc"),
			inChunks(asks, api.Chunked{Stage: api.CEnd, Line: "\r", Size: 3}, "abc"),
			inChunks(asks, api.Chunked{Stage: api.CTail, Line: "t: 1", Size: 3}, "abc"),
			inChunks(asks, api.Chunked{Stage: api.CTail, Size: 20000}, fill(20000)),
		)
	}
	return l
}

// stopped are readers that read nothing any more.
func stopped() []api.Reader {
	var l []api.Reader
	for _, bad := range errors() {
		for _, asks := range []bool{true, false} {
			l = append(l, api.Reader{Asks: asks, Bad: bad}, api.Reader{Asks: asks, Method: "HEAD", Bad: bad})
		}
	}
	return l
}

func rights() []api.Reader { return slices.Concat(waiting(), within(), stopped()) }

// leftOver are what neither a reader without a head nor one that stopped may have.
func leftOver() []func(r *api.Reader) {
	l := []func(r *api.Reader){
		func(r *api.Reader) { r.Head.Start.Method = "GET" },
		func(r *api.Reader) { r.Head.Start.Target = "/" },
		func(r *api.Reader) { r.Head.Start.Code = 200 },
		func(r *api.Reader) { r.Head.Start.Reason = "OK" },
		func(r *api.Reader) { r.Head.Start.Minor = 1 },
		func(r *api.Reader) { r.Head.Start = ask("GET", 1) },
		func(r *api.Reader) { r.Head.Start = answer(200, 1) },
		func(r *api.Reader) { r.Head.Fields = make([]api.Field, 1) },
		func(r *api.Reader) { r.Head.Fields = one("a", "b") },
		func(r *api.Reader) { r.Head.Body = "a" },
		func(r *api.Reader) { r.Head.Body = "\x00" },
		func(r *api.Reader) { r.Chunk.Line = "1" },
		func(r *api.Reader) { r.Chunk = api.Chunked{Stage: api.CData, Left: 1} },
	}
	for _, n := range []int{-1, 1, 2, 3, 4, 5, math.MaxInt, math.MinInt} {
		l = append(l,
			func(r *api.Reader) { r.Body.Kind = n },
			func(r *api.Reader) { r.Body.Size = n },
			func(r *api.Reader) { r.Chunk.Stage = n },
			func(r *api.Reader) { r.Chunk.Left = n },
			func(r *api.Reader) { r.Chunk.Size = n },
		)
	}
	return l
}

// wrongWaiting are readers without a head that may not be, each by one thing alone.
func wrongWaiting() []api.Reader {
	var l []api.Reader
	for _, asks := range []bool{true, false} {
		for _, buf := range []string{"", "GET"} {
			for _, do := range leftOver() {
				l = append(l, changed(api.Reader{Asks: asks, Buf: buf}, do))
			}
		}
		for _, buf := range []string{fill(4001), fill(long), strings.Repeat("\n", 4001)} {
			l = append(l, api.Reader{Asks: asks, Buf: buf})
		}
	}
	return l
}

// wrongStopped are readers that stopped, each with one thing that is left over.
func wrongStopped() []api.Reader {
	var l []api.Reader
	for _, bad := range []api.Errno{api.ErrArg, api.ErrLong, api.ErrChunk, api.ErrLine} {
		for _, asks := range []bool{true, false} {
			r := api.Reader{Asks: asks, Method: "GET", Bad: bad}
			for _, do := range leftOver() {
				l = append(l, changed(r, do))
			}
			l = append(l, changed(r, func(r *api.Reader) { r.Buf = "a" }), changed(r, func(r *api.Reader) { r.Buf = fill(4001) }), changed(r, func(r *api.Reader) { r.In = true }))
		}
		for _, r := range within() {
			l = append(l, changed(r, func(r *api.Reader) { r.Bad = bad }))
		}
	}
	return l
}

// wrongWithin are readers in a body that may not be, each by one thing alone.
func wrongWithin() []api.Reader {
	var l []api.Reader
	also := func(r api.Reader, do func(r *api.Reader)) { l = append(l, changed(r, do)) }
	for _, r := range within() {
		also(r, func(r *api.Reader) { r.Buf = "a" })
		also(r, func(r *api.Reader) { r.Buf = "\n" })
		also(r, func(r *api.Reader) { r.In = false })
		also(r, func(r *api.Reader) { r.Asks = !r.Asks })
		also(r, func(r *api.Reader) { r.Head.Start = api.Start{} })
		also(r, func(r *api.Reader) { r.Head.Start = startOf(!r.Asks) })
		also(r, func(r *api.Reader) { r.Head.Start.Minor = 2 })
		also(r, func(r *api.Reader) { r.Head.Start.Minor = -1 })
		also(r, func(r *api.Reader) { r.Head.Start.Method += " " })
		also(r, func(r *api.Reader) { r.Head.Start.Reason += "\n" })
		also(r, func(r *api.Reader) { r.Head.Fields = append(r.Head.Fields, api.Field{}) })
		also(r, func(r *api.Reader) { r.Head.Fields = append(r.Head.Fields, one("a", " b")...) })
		also(r, func(r *api.Reader) { r.Head.Fields = append(r.Head.Fields, one("a b", "")...) })
		also(r, func(r *api.Reader) { r.Head.Fields = append(r.Head.Fields, others(41)...) })
		also(r, func(r *api.Reader) { r.Head.Fields = append(r.Head.Fields, one(length, "x")...) })
		also(r, func(r *api.Reader) { r.Head.Fields = one(length, "20001") })
		also(r, func(r *api.Reader) { r.Head.Fields = one(coding, "gzip") })
		also(r, func(r *api.Reader) { r.Body = api.Body{} })
		for _, n := range []int{-1, 4, math.MaxInt, math.MinInt} {
			also(r, func(r *api.Reader) { r.Body.Kind = n })
			also(r, func(r *api.Reader) { r.Chunk.Stage = n })
			also(r, func(r *api.Reader) { r.Chunk.Size = n })
			also(r, func(r *api.Reader) { r.Body.Size = n })
		}
		for n := range 4 {
			if n != r.Body.Kind {
				also(r, func(r *api.Reader) { r.Body.Kind = n })
			}
		}
		also(r, func(r *api.Reader) { r.Body.Size++ })
		also(r, func(r *api.Reader) { r.Body.Size-- })
		also(r, func(r *api.Reader) { r.Chunk.Size++ })
		also(r, func(r *api.Reader) { r.Chunk.Left = -1 })
	}
	return slices.Concat(l, wrongLengths(), wrongChunks())
}

// wrongLengths are those whose fields say nothing of a body, or whose body is whole or too long.
func wrongLengths() []api.Reader {
	l := []api.Reader{
		inRest(fill(20001)), inRest(fill(long)),
		changed(inRest(""), func(r *api.Reader) { r.Method = "HEAD" }),
		changed(inRest(""), func(r *api.Reader) { r.Chunk.Line = "1" }),
		changed(inRest("a"), func(r *api.Reader) { r.Chunk.Size = 1 }),
		changed(inRest(""), func(r *api.Reader) { r.Chunk.Stage = api.CTail }),
		changed(inRest(""), func(r *api.Reader) { r.Asks, r.Head.Start = true, ask("GET", 1) }),
	}
	for _, code := range []int{100, 101, 199, 204, 304} {
		l = append(l, changed(inRest(""), func(r *api.Reader) { r.Head.Start.Code = code }))
		l = append(l, changed(inSize(false, 2, ""), func(r *api.Reader) { r.Head.Start.Code = code }))
		l = append(l, changed(inChunks(false, api.Chunked{}, ""), func(r *api.Reader) { r.Head.Start.Code = code }))
	}
	for _, asks := range []bool{true, false} {
		nothing := api.Reader{Asks: asks, In: true}
		nothing.Head.Start = startOf(asks)
		l = append(l, nothing,
			inSize(asks, 0, ""), inSize(asks, 0, "a"), inSize(asks, 1, "a"), inSize(asks, 2, "ab"), inSize(asks, 2, "abc"), inSize(asks, 2, fill(long)), inSize(asks, 20000, fill(20000)), inSize(asks, 20001, ""),
			changed(inSize(asks, 2, ""), func(r *api.Reader) { r.Chunk.Line = "1" }),
			changed(inSize(asks, 2, "a"), func(r *api.Reader) { r.Chunk.Size = 1 }),
			changed(inSize(asks, 2, ""), func(r *api.Reader) { r.Chunk = api.Chunked{Stage: api.CData, Left: 2} }),
			changed(inSize(asks, 2, ""), func(r *api.Reader) { r.Head.Fields[0].Value = "3" }),
			changed(inSize(asks, 2, ""), func(r *api.Reader) { r.Head.Fields[0].Name = "Length" }),
		)
	}
	return append(l, changed(inSize(false, 2, ""), func(r *api.Reader) { r.Method = "HEAD" }))
}

// wrongChunks are those whose Chunk is whole, may not be, or counts other bytes.
func wrongChunks() []api.Reader {
	l := []api.Reader{changed(inChunks(false, api.Chunked{}, ""), func(r *api.Reader) { r.Method = "HEAD" })}
	for _, asks := range []bool{true, false} {
		for _, c := range []api.Chunked{
			{Stage: api.CDone, Size: 3}, {Size: 2}, {Size: 4}, {}, {Stage: api.CTail, Size: 2}, {Stage: api.CEnd, Size: 4}, {Stage: api.CData, Left: 1, Size: 2}, {Stage: api.CData, Left: 1, Size: 4},
			{Stage: api.CData, Size: 3}, {Stage: api.CData, Left: 19998, Size: 3}, {Stage: api.CData, Left: -1, Size: 3}, {Stage: api.CData, Left: 1, Line: "x", Size: 3}, {Left: 1, Size: 3}, {Stage: 5, Size: 3}, {Stage: -1, Size: 3}, {Line: "\n", Size: 3}, {Line: fill(201), Size: 3}, {Stage: api.CTail, Left: 1, Size: 3},
		} {
			l = append(l, inChunks(asks, c, "abc"))
		}
		l = append(l,
			inChunks(asks, api.Chunked{Stage: api.CDone}, ""), inChunks(asks, api.Chunked{Size: -1}, ""), inChunks(asks, api.Chunked{Size: 20001}, fill(20001)), inChunks(asks, api.Chunked{}, "a"),
			changed(inChunks(asks, api.Chunked{}, ""), func(r *api.Reader) { r.Body.Size = 1 }),
			changed(inChunks(asks, api.Chunked{Size: 3}, "abc"), func(r *api.Reader) { r.Body.Size = 3 }),
			changed(inChunks(asks, api.Chunked{}, ""), func(r *api.Reader) { r.Head.Start.Minor = 0 }),
			changed(inChunks(asks, api.Chunked{}, ""), func(r *api.Reader) { r.Head.Fields = one(coding, "gzip, chunked") }),
		)
	}
	return l
}

func wrongs() []api.Reader { return slices.Concat(wrongWaiting(), wrongStopped(), wrongWithin()) }

func wantRight(t *testing.T, r api.Reader, want bool) {
	t.Helper()
	if got := Right(r); got != want {
		t.Errorf("Right(%s) = %t", told(r), got)
	}
}

// P10.1: a reader with nothing.
func TestNew(t *testing.T) {
	for _, asks := range []bool{true, false} {
		for _, method := range []string{"", "GET", "HEAD", "no token", "\x00", fill(long)} {
			if got := New(asks, method); !sameReader(got, api.Reader{Asks: asks, Method: method}) || !Right(got) {
				t.Errorf("New(%t, %.40q) = %s", asks, method, told(got))
			}
		}
	}
}

// P10.1: readers that may be.
func TestRight(t *testing.T) {
	for _, r := range rights() {
		wantRight(t, r, true)
		// R3: an empty row is as none.
		if len(r.Head.Fields) == 0 {
			r.Head.Fields = []api.Field{}
			wantRight(t, r, true)
		}
	}
	wantRight(t, api.Reader{}, true)
}

// P10.1: readers that may not be, by one thing alone.
func TestWrong(t *testing.T) {
	for _, r := range wrongs() {
		wantRight(t, r, false)
	}
}

// P10.1: Buf has at most 4000 bytes.
func TestRightBuf(t *testing.T) {
	for count := range 4100 {
		for _, asks := range []bool{true, false} {
			wantRight(t, api.Reader{Asks: asks, Buf: fill(count)}, count <= 4000)
			wantRight(t, api.Reader{Asks: asks, Buf: fill(count), Bad: api.ErrLong}, count == 0)
			wantRight(t, changed(inSize(asks, 5, ""), func(r *api.Reader) { r.Buf = fill(count) }), count == 0)
			wantRight(t, changed(inChunks(asks, api.Chunked{}, ""), func(r *api.Reader) { r.Buf = fill(count) }), count == 0)
		}
		wantRight(t, changed(inRest(""), func(r *api.Reader) { r.Buf = fill(count) }), count == 0)
	}
}

// P10.1: Head's Body has fewer bytes than Size, as many as Chunk counts, or at most 20000.
func TestRightBytesRead(t *testing.T) {
	for had := range 30 {
		for n := range 30 {
			for _, asks := range []bool{true, false} {
				wantRight(t, inSize(asks, n, fill(had)), had < n)
				wantRight(t, inChunks(asks, api.Chunked{Size: n}, fill(had)), had == n)
			}
		}
	}
	for had := 19990; had < 20010; had++ {
		wantRight(t, inRest(fill(had)), had <= 20000)
		wantRight(t, inSize(true, 20000, fill(had)), had < 20000)
		wantRight(t, inChunks(false, api.Chunked{Stage: api.CTail, Size: had}, fill(had)), had <= 20000)
	}
}

// P10.1: Body is what the fields say, of requests and of answers to each method; of a request Method does not matter.
func TestRightLengths(t *testing.T) {
	rows := [][]api.Field{nil, one(length, "0"), one(length, "2"), one(length, "02"), one(length, "3"), one(length, "x"), one(length, "20001"), one(coding, "chunked"), one(coding, "gzip"), append(one(coding, "chunked"), one(length, "2")...), others(40), append(others(39), one(length, "2")...), append(others(40), one(length, "2")...)}
	starts := []api.Start{ask("GET", 0), ask("GET", 1), ask("HEAD", 1), ask("G T", 1), answer(200, 0), answer(200, 1), answer(100, 1), answer(204, 1), answer(304, 1), answer(404, 1), answer(99, 1), {}}
	for _, l := range rows {
		for _, s := range starts {
			for _, asks := range []bool{true, false} {
				for _, method := range []string{"", "GET", "HEAD", "head"} {
					said, bad := frame.Answer(s, l, method)
					if asks {
						said, bad = frame.Request(s, l)
					}
					for _, b := range []api.Body{{}, {Kind: 1}, {Kind: 1, Size: 2}, {Kind: 1, Size: 3}, {Kind: 1, Size: 20001}, {Kind: 2}, {Kind: 2, Size: 2}, {Kind: 3}, {Kind: 3, Size: 2}} {
						r := api.Reader{Asks: asks, Method: method, In: true, Head: message(s, l, ""), Body: b}
						wantRight(t, r, bad == api.OK && b == said && b != api.Body{} && b != api.Body{Kind: 1})
					}
				}
			}
		}
	}
}

func wantClose(t *testing.T, r api.Reader, want []api.Message, wantBad api.Errno) {
	t.Helper()
	if got, bad := Close(r); !sameMessages(got, want) || bad != wantBad {
		t.Errorf("Close(%s) = %s, %d; want %s, %d", told(r), toldMessages(got), bad, toldMessages(want), wantBad)
	}
}

// P10.2: ErrArg, if the reader may not be.
func TestCloseWrong(t *testing.T) {
	for _, r := range wrongs() {
		wantClose(t, r, nil, api.ErrArg)
	}
}

// P10.2: Bad, if that is not OK.
func TestCloseStopped(t *testing.T) {
	for _, r := range stopped() {
		wantClose(t, r, nil, r.Bad)
	}
}

// P10.2: within a body of BClose its message, within another one ErrShort.
func TestCloseWithin(t *testing.T) {
	for _, r := range within() {
		if r.Body.Kind == api.BClose {
			wantClose(t, r, []api.Message{r.Head}, api.OK)
		} else {
			wantClose(t, r, nil, api.ErrShort)
		}
	}
	for _, l := range [][]api.Field{nil, one("a", "b"), others(40)} {
		for _, code := range []int{200, 203, 206, 404, 599} {
			for minor := range 2 {
				r := inRest("abc")
				r.Head.Start, r.Head.Fields, r.Method = answer(code, minor), l, "POST"
				wantClose(t, r, []api.Message{message(answer(code, minor), l, "abc")}, api.OK)
			}
		}
	}
}

// P10.2: ErrShort, if Buf is not empty, whatever it holds; else nothing.
func TestCloseWaiting(t *testing.T) {
	for _, r := range waiting() {
		if r.Buf == "" {
			wantClose(t, r, nil, api.OK)
		} else {
			wantClose(t, r, nil, api.ErrShort)
		}
	}
	for n := range 256 {
		wantClose(t, api.Reader{Asks: n%2 == 0, Buf: oneByte(n)}, nil, api.ErrShort)
	}
}

// P10.2: what a reader comes to at the end, behind what was fed.
func TestCloseBehindFeed(t *testing.T) {
	for _, x := range []struct {
		asks bool
		s    string
		want []api.Message
		bad  api.Errno
	}{
		{true, "", nil, api.OK},
		{true, "GET /x HTTP/1.1\r\n\r\n", nil, api.OK},
		{true, "GET /x HTTP/1.1\r\n\r\n\r\n\n", nil, api.OK},
		{true, "GET /x HTTP/1.1\r\n\r\n\r", nil, api.ErrShort},
		{true, "GET /x HTTP/1.1\r\n", nil, api.ErrShort},
		{true, "G", nil, api.ErrShort},
		{true, "PUT /x HTTP/1.1\r\nContent-Length: 2\r\n\r\n", nil, api.ErrShort},
		{true, "PUT /x HTTP/1.1\r\nContent-Length: 2\r\n\r\na", nil, api.ErrShort},
		{true, "PUT /x HTTP/1.1\r\nContent-Length: 2\r\n\r\nab", nil, api.OK},
		{true, "PUT /x HTTP/1.1\r\nTransfer-Encoding: chunked\r\n\r\n0\r\n", nil, api.ErrShort},
		{true, "PUT /x HTTP/1.1\r\nTransfer-Encoding: chunked\r\n\r\n0\r\n\r\n", nil, api.OK},
		{true, "x\n\n", nil, api.ErrStart},
		{true, fill(4001), nil, api.ErrLong},
		{false, "HTTP/1.1 200 r\r\n\r\n", []api.Message{message(answer(200, 1), nil, "")}, api.OK},
		{false, "HTTP/1.1 200 r\r\na: b\r\n\r\nabc\r\n", []api.Message{message(answer(200, 1), one("a", "b"), "abc\r\n")}, api.OK},
		{false, "HTTP/1.1 204 r\r\n\r\n", nil, api.OK},
		{false, "HTTP/1.1 100 r\r\n\r\n", nil, api.OK},
		{false, "HTTP/1.1 100 r\r\n\r\nH", nil, api.ErrShort},
		{false, "HTTP/1.1 200 r\r\nContent-Length: 0\r\n\r\n", nil, api.OK},
		{false, "HTTP/1.1 200 r\r\nContent-Length: 1\r\n\r\n", nil, api.ErrShort},
		{false, "HTTP/1.1 200 r\r\nTransfer-Encoding: chunked\r\n\r\nx\n", nil, api.ErrChunk},
		{false, "HTTP/1.1 200 r\r\n\r\n" + fill(20001), nil, api.ErrLong},
	} {
		r, _, bad := Feed(New(x.asks, ""), x.s)
		if bad != api.OK {
			t.Errorf("Feed(%.60q) tells %d", x.s, bad)
		}
		wantClose(t, r, x.want, x.bad)
	}
}

// R1, R4: no row that is handed in is changed, nor what lies behind it; no answer shares it.
func TestCloseRowsStay(t *testing.T) {
	all := others(5)
	r := inRest("abc")
	r.Head.Fields = all[:3]
	got, bad := Close(r)
	if bad != api.OK || len(got) != 1 {
		t.Fatalf("Close(%s) = %s, %d", told(r), toldMessages(got), bad)
	}
	row := got[0].Fields
	clear(row[:cap(row)])
	if !slices.Equal(all, others(5)) {
		t.Errorf("what is done to an answer changes what was handed in: %s", toldRow(all))
	}
	wantClose(t, r, []api.Message{message(answer(200, 1), others(3), "abc")}, api.OK)
}
