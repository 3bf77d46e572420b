package chunk

import (
	"math"
	"regexp"
	"strconv"
	"strings"
	"testing"

	"intarsia/api"
)

// long is far beyond any limit.
const long = 1 << 20

func fill(count int) string { return strings.Repeat("x", count) }

func oneByte(n int) string { return string([]byte{byte(n)}) }

// everyByte has each byte once, in order.
func everyByte() string {
	var all []byte
	for n := range 256 {
		all = append(all, byte(n))
	}
	return string(all)
}

func inSize(line string, size int) api.Chunked {
	return api.Chunked{Stage: api.CSize, Line: line, Size: size}
}

func inData(left, size int) api.Chunked {
	return api.Chunked{Stage: api.CData, Left: left, Size: size}
}

func inEnd(line string, size int) api.Chunked {
	return api.Chunked{Stage: api.CEnd, Line: line, Size: size}
}

func inTail(line string, size int) api.Chunked {
	return api.Chunked{Stage: api.CTail, Line: line, Size: size}
}

func done(size int) api.Chunked { return api.Chunked{Stage: api.CDone, Size: size} }

func wantRight(t *testing.T, c api.Chunked, want bool) {
	t.Helper()
	if got := Right(c); got != want {
		t.Errorf("Right(%.60v), its Line of %d bytes, = %t", c, len(c.Line), got)
	}
}

func wantFeed(t *testing.T, c api.Chunked, s string, want api.Chunked, data string, count int) {
	t.Helper()
	got, gotData, gotCount, bad := Feed(c, s)
	if got != want || gotData != data || gotCount != count || bad != api.OK {
		t.Errorf("Feed(%.60v, %.60q), of %d bytes, = %.60v, %.60q of %d bytes, %d, %d; want %.60v, %.60q of %d bytes, %d", c, s, len(s), got, gotData, len(gotData), gotCount, bad, want, data, len(data), count)
	}
}

// wantAll has all bytes be read.
func wantAll(t *testing.T, c api.Chunked, s string, want api.Chunked, data string) {
	t.Helper()
	wantFeed(t, c, s, want, data, len(s))
}

// wantBad has the error be told with zero values.
func wantBad(t *testing.T, c api.Chunked, s string, want api.Errno) {
	t.Helper()
	got, data, count, bad := Feed(c, s)
	if got != (api.Chunked{}) || data != "" || count != 0 || bad != want {
		t.Errorf("Feed(%.60v, %.60q), of %d bytes, = %.60v, %.60q, %d, %d; want the error %d alone", c, s, len(s), got, data, count, bad, want)
	}
}

// rights are some of what may be, of each stage.
func rights() []api.Chunked {
	var l []api.Chunked
	for _, size := range []int{0, 1, 19999, 20000} {
		for _, line := range []string{"", "\r", "0", "1", " a;", "\x00\xff", fill(199), fill(200)} {
			l = append(l, inSize(line, size), inEnd(line, size), inTail(line, size))
		}
		l = append(l, done(size))
		if size < 20000 {
			l = append(l, inData(1, size), inData(20000-size, size))
		}
	}
	return l
}

// wrongs are some of what may not be, each by one thing alone.
func wrongs() []api.Chunked {
	l := []api.Chunked{
		inData(0, 0), inData(-1, 0), inData(20001, 0), inData(20000, 1), inData(19999, 2), inData(2, 19999),
		inData(0, 20000), inData(1, 20000), inData(-1, 20000), inData(1, 20001), inData(-1, 20001), inData(1, -1),
		inData(math.MaxInt, 0), inData(math.MinInt, 0), inData(math.MaxInt, 20000), inData(1, math.MinInt), inData(math.MinInt, math.MaxInt),
	}
	for _, stage := range []int{-1, 5, 6, -5, 256, math.MaxInt, math.MinInt} {
		l = append(l, api.Chunked{Stage: stage}, api.Chunked{Stage: stage, Left: 1})
	}
	for _, stage := range []int{api.CSize, api.CEnd, api.CTail, api.CDone} {
		for _, size := range []int{-1, 20001, math.MaxInt, math.MinInt} {
			l = append(l, api.Chunked{Stage: stage, Size: size})
		}
		for _, left := range []int{1, -1, 19999, 20000, 20001, math.MaxInt, math.MinInt} {
			l = append(l, api.Chunked{Stage: stage, Left: left}, api.Chunked{Stage: stage, Left: left, Size: 20000})
		}
	}
	for _, stage := range []int{api.CSize, api.CEnd, api.CTail} {
		for _, line := range []string{fill(201), fill(long), "\n", "a\n", "\na", "a\nb", fill(199) + "\n", "\n" + fill(199), "\r\n"} {
			l = append(l, api.Chunked{Stage: stage, Line: line})
		}
	}
	for _, line := range []string{"a", "\r", "\n", " ", "\x00", fill(200), fill(201)} {
		l = append(l, api.Chunked{Stage: api.CData, Line: line, Left: 1}, api.Chunked{Stage: api.CDone, Line: line})
	}
	return l
}

// P8.1: each stage, one below and one above them.
func TestRightStages(t *testing.T) {
	for stage := -300; stage <= 300; stage++ {
		wantRight(t, api.Chunked{Stage: stage}, stage == 0 || stage == 2 || stage == 3 || stage == 4)
		wantRight(t, api.Chunked{Stage: stage, Left: 1}, stage == 1)
	}
}

// P8.1: a Size is 0 to 20000.
func TestRightSizes(t *testing.T) {
	for size := -10; size <= 20010; size++ {
		right := size >= 0 && size <= 20000
		for _, c := range []api.Chunked{inSize("", size), inEnd("", size), inTail("", size), done(size)} {
			wantRight(t, c, right)
		}
		wantRight(t, inData(1, size), right && size != 20000)
	}
}

// P8.1: Left is 1 to 20000 less Size in CData, and 0 elsewhere.
func TestRightLefts(t *testing.T) {
	for _, size := range []int{0, 1, 2, 10000, 19998, 19999, 20000} {
		for left := -3; left <= 20003; left++ {
			wantRight(t, inData(left, size), left >= 1 && left+size <= 20000)
			for _, stage := range []int{api.CSize, api.CEnd, api.CTail, api.CDone} {
				wantRight(t, api.Chunked{Stage: stage, Left: left, Size: size}, left == 0)
			}
		}
	}
}

// P8.1: a Line has at most 200 bytes, none of them 10, and is empty in CData and CDone.
func TestRightLines(t *testing.T) {
	for count := range 300 {
		for _, c := range []api.Chunked{inSize(fill(count), 0), inEnd(fill(count), 0), inTail(fill(count), 0)} {
			wantRight(t, c, count <= 200)
		}
		wantRight(t, api.Chunked{Stage: api.CData, Left: 1, Line: fill(count)}, count == 0)
		wantRight(t, api.Chunked{Stage: api.CDone, Line: fill(count)}, count == 0)
	}
	for n := range 256 {
		for _, line := range []string{oneByte(n), "a" + oneByte(n), oneByte(n) + "a", "a" + oneByte(n) + "b", fill(199) + oneByte(n)} {
			for _, c := range []api.Chunked{inSize(line, 0), inEnd(line, 7), inTail(line, 20000)} {
				wantRight(t, c, n != 10)
			}
			wantRight(t, api.Chunked{Stage: api.CData, Left: 1, Line: line}, false)
			wantRight(t, api.Chunked{Stage: api.CDone, Line: line}, false)
		}
	}
}

// P8.1: what may be, and what may not.
func TestRightAll(t *testing.T) {
	wantRight(t, api.Chunked{}, true)
	for _, c := range rights() {
		wantRight(t, c, true)
	}
	for _, c := range wrongs() {
		wantRight(t, c, false)
	}
}

// P8.1: ErrArg, if what was read so far may not be, whatever is handed in, and ahead of any other error.
func TestFeedWrong(t *testing.T) {
	for _, c := range wrongs() {
		for _, s := range []string{"", "a", "\n", "\r\n", "0\r\n\r\n", "x\r\n", "fffffffffffff\r\n", fill(201), everyByte()} {
			wantBad(t, c, s, api.ErrArg)
		}
	}
}

// P8.1: no bytes leave all as it is.
func TestFeedNothing(t *testing.T) {
	for _, c := range rights() {
		wantAll(t, c, "", c, "")
	}
}

// P8.1: the chapter's example, and other bodies that are whole; bytes behind CDone are not read.
func TestFeedWhole(t *testing.T) {
	for s, data := range map[string]string{
		"3\r\nabc\r\n0\r\n\r\n":                           "abc",
		"0\r\n\r\n":                                       "",
		"0\n\n":                                           "",
		"3\nabc\n0\n\n":                                   "abc",
		"3\nabc\r\n0\n\r\n":                               "abc",
		"1\r\na\r\n1\r\nb\r\n0\r\n\r\n":                   "ab",
		"2\r\n\r\n\r\n0\r\n\r\n":                          "\r\n",
		"1\r\n\n\r\n1\n\n\n0\n\n":                         "\n\n",
		"5\r\n0\r\n\r\n\r\n0\r\n\r\n":                     "0\r\n\r\n",
		"a\r\n0123456789\r\n0\r\n\r\n":                    "0123456789",
		"A\r\n0123456789\r\n0\r\n\r\n":                    "0123456789",
		"3;x\r\nabc\r\n0;y=\"z\"\r\nt: 1\r\nu: 2\r\n\r\n": "abc",
		"3 \r\nabc\r\n 0\t\r\n\r\n":                       "abc",
		"000\r\n\r\n":                                     "",
		"0\r\n \r\n\r\n":                                  "",
		"0\r\n\r\r\n\r\n":                                 "",
		"100\r\n" + everyByte() + "\r\n0\r\n\r\n":         everyByte(),
		"4E20\r\n" + fill(20000) + "\r\n0\r\n\r\n":        fill(20000),
	} {
		for _, behind := range []string{"", "\r\n", "\n", "x", "3\r\nabc\r\n", "0\r\n\r\n", everyByte(), fill(long)} {
			wantFeed(t, api.Chunked{}, s+behind, done(len(data)), data, len(s))
		}
	}
}

// P8.1: a byte is not read in CDone.
func TestFeedDone(t *testing.T) {
	for _, size := range []int{0, 1, 20000} {
		for n := range 256 {
			wantFeed(t, done(size), oneByte(n), done(size), "", 0)
			wantFeed(t, done(size), oneByte(n)+"\r\n0\r\n\r\n", done(size), "", 0)
		}
		wantFeed(t, done(size), fill(long), done(size), "", 0)
		wantFeed(t, done(size), "0\r\n\r\n", done(size), "", 0)
	}
}

// P8.1: what was read of a body that is not whole yet.
func TestFeedPart(t *testing.T) {
	for _, x := range []struct {
		s    string
		want api.Chunked
		data string
	}{
		{"5", inSize("5", 0), ""},
		{"5;x", inSize("5;x", 0), ""},
		{"5\r", inSize("5\r", 0), ""},
		{"x", inSize("x", 0), ""},
		{"5\r\n", inData(5, 0), ""},
		{"5\n", inData(5, 0), ""},
		{"5\r\na", inData(4, 1), "a"},
		{"5\r\nab", inData(3, 2), "ab"},
		{"5\r\nabcd", inData(1, 4), "abcd"},
		{"5\r\nabcde", inEnd("", 5), "abcde"},
		{"5\r\nabcde\r", inEnd("\r", 5), "abcde"},
		{"5\r\nabcdef", inEnd("f", 5), "abcde"},
		{"5\r\nabcde\r\n", inSize("", 5), "abcde"},
		{"5\r\nabcde\n", inSize("", 5), "abcde"},
		{"5\r\nabcde\r\n2", inSize("2", 5), "abcde"},
		{"5\r\nabcde\r\n2\n", inData(2, 5), "abcde"},
		{"5\r\nabcde\r\n2\nf", inData(1, 6), "abcdef"},
		{"5\r\nabcde\r\n0", inSize("0", 5), "abcde"},
		{"5\r\nabcde\r\n0\r\n", inTail("", 5), "abcde"},
		{"5\r\nabcde\r\n0\r\n\r", inTail("\r", 5), "abcde"},
		{"5\r\nabcde\r\n0\r\nt: 1", inTail("t: 1", 5), "abcde"},
		{"5\r\nabcde\r\n0\r\nt: 1\r\n", inTail("", 5), "abcde"},
		{"0\n", inTail("", 0), ""},
		{"4e20\r\n", inData(20000, 0), ""},
		{"4e20\r\n" + fill(19999), inData(1, 19999), fill(19999)},
		{"4e20\r\n" + fill(20000), inEnd("", 20000), fill(20000)},
	} {
		wantAll(t, api.Chunked{}, x.s, x.want, x.data)
	}
}

// P8.1: a byte comes behind Line, which has at most 200.
func TestFeedLongLines(t *testing.T) {
	for _, stage := range []func(line string, size int) api.Chunked{inSize, inEnd, inTail} {
		for _, had := range []int{0, 1, 100, 199, 200} {
			for _, more := range []int{0, 1, 2, 99, 100, 101, 199, 200, 201, 202, long} {
				c := stage(fill(had), 3)
				if had+more <= 200 {
					wantAll(t, c, fill(more), stage(fill(had+more), 3), "")
				} else {
					wantBad(t, c, fill(more), api.ErrChunk)
					wantBad(t, c, fill(more)+"\n", api.ErrChunk)
					wantBad(t, c, fill(more)+"\r\n\r\n", api.ErrChunk)
				}
			}
		}
		for n := range 256 {
			if n != 10 {
				wantAll(t, stage(fill(199), 3), oneByte(n), stage(fill(199)+oneByte(n), 3), "")
				wantBad(t, stage(fill(200), 3), oneByte(n), api.ErrChunk)
			}
		}
	}
}

// P8.1: a line of 200 bytes may be ended, one of more may not, and its byte 13 counts among them.
func TestFeedLongLinesEnded(t *testing.T) {
	zeros := func(count int) string { return strings.Repeat("0", count) }
	wantAll(t, inSize("", 3), zeros(200)+"\n", inTail("", 3), "")
	wantAll(t, inSize("", 3), zeros(199)+"\r\n", inTail("", 3), "")
	wantAll(t, inSize(zeros(200), 3), "\n", inTail("", 3), "")
	wantAll(t, inSize(zeros(199), 3), "\r\n", inTail("", 3), "")
	wantAll(t, inSize("", 3), "2;"+fill(198)+"\n", inData(2, 3), "")
	wantAll(t, inSize("", 3), "2;"+fill(197)+"\r\n", inData(2, 3), "")
	wantBad(t, inSize("", 3), zeros(201)+"\n", api.ErrChunk)
	wantBad(t, inSize("", 3), zeros(200)+"\r\n", api.ErrChunk)
	wantBad(t, inSize(zeros(200), 3), "\r\n", api.ErrChunk)
	wantBad(t, inSize("", 3), "2;"+fill(199)+"\n", api.ErrChunk)
	wantBad(t, inSize("", 3), "2;"+fill(198)+"\r\n", api.ErrChunk)

	wantAll(t, inTail("", 3), fill(200)+"\n", inTail("", 3), "")
	wantAll(t, inTail("", 3), fill(199)+"\r\n", inTail("", 3), "")
	wantAll(t, inTail(fill(200), 3), "\n\n", done(3), "")
	wantBad(t, inTail("", 3), fill(201)+"\n", api.ErrChunk)
	wantBad(t, inTail("", 3), fill(200)+"\r\n", api.ErrChunk)
	wantBad(t, inTail(fill(200), 3), "\r\n\r\n", api.ErrChunk)

	wantBad(t, inEnd("", 3), fill(200)+"\n", api.ErrChunk)
	wantBad(t, inEnd(fill(200), 3), "\n", api.ErrChunk)

	// Each line counts for itself.
	wantAll(t, inTail("", 3), strings.Repeat(fill(200)+"\n", 1000), inTail("", 3), "")
	wantAll(t, inTail(fill(200), 3), "\n"+fill(200), inTail(fill(200), 3), "")
}

// P8.1: the error of a line that is too long comes ahead of what the line says.
func TestFeedLongLineOrNumber(t *testing.T) {
	wantBad(t, api.Chunked{}, strings.Repeat("f", 200)+"\n", api.ErrLong)
	wantBad(t, api.Chunked{}, strings.Repeat("f", 201)+"\n", api.ErrChunk)
	wantBad(t, api.Chunked{}, strings.Repeat("f", 200)+"\r\n", api.ErrChunk)
	wantBad(t, api.Chunked{}, "4e21\r\n"+fill(300), api.ErrLong)
	wantBad(t, api.Chunked{}, "1\na"+fill(300)+"\n4e21\n", api.ErrChunk)
	wantBad(t, api.Chunked{}, "4e21\nx\n", api.ErrLong)
	wantBad(t, api.Chunked{}, "x\n4e21\n", api.ErrChunk)
}

// P8.1: a line is without one byte 13 at its end, and no other.
func TestFeedLineEnds(t *testing.T) {
	wantAll(t, api.Chunked{}, "3\n", inData(3, 0), "")
	wantAll(t, api.Chunked{}, "3\r\n", inData(3, 0), "")
	wantAll(t, inSize("3", 0), "\n", inData(3, 0), "")
	wantAll(t, inSize("3", 0), "\r\n", inData(3, 0), "")
	wantAll(t, inSize("3\r", 0), "\n", inData(3, 0), "")
	for _, s := range []string{"3\r\r\n", "3\r\r\r\n", "\r3\n", "\r3\r\n", "3\r4\n", "3\r \n", "3 \r \r\n", "3\r;x\n", "\r\r\n", "3\v\n"} {
		wantBad(t, api.Chunked{}, s, api.ErrChunk)
	}
	wantAll(t, api.Chunked{}, "3;\r\r\n", inData(3, 0), "")
	wantAll(t, api.Chunked{}, "3;\r\r\r\n", inData(3, 0), "")

	wantAll(t, inEnd("", 3), "\n", inSize("", 3), "")
	wantAll(t, inEnd("", 3), "\r\n", inSize("", 3), "")
	wantAll(t, inEnd("\r", 3), "\n", inSize("", 3), "")
	for _, s := range []string{"\r\r\n", "\r\r\r\n", " \n", " \r\n", "\r \n", "\t\n", "a\n", "a\r\n", "\ra\n", "\x00\n", "0\r\n\r\n"} {
		wantBad(t, inEnd("", 3), s, api.ErrChunk)
	}
	wantBad(t, inEnd("\r", 3), "\r\n", api.ErrChunk)
	wantBad(t, inEnd("a", 3), "\n", api.ErrChunk)
	wantBad(t, inEnd("a", 3), "\r\n", api.ErrChunk)

	wantAll(t, inTail("", 3), "\n", done(3), "")
	wantAll(t, inTail("", 3), "\r\n", done(3), "")
	wantAll(t, inTail("\r", 3), "\n", done(3), "")
	for _, s := range []string{"\r\r\n", "\r\r\r\n", " \n", " \r\n", "\r \n", "\t\n", "a\n", "a\r\n", "\ra\n", "\x00\n", "0\r\n", "3\n", ";\n", "no field\r\n", "a\nb\nc\n"} {
		wantAll(t, inTail("", 3), s, inTail("", 3), "")
		wantFeed(t, inTail("", 3), s+"\n\n", done(3), "", len(s)+1)
		wantFeed(t, inTail("", 3), s+"\r\n\r\n", done(3), "", len(s)+2)
	}
	wantAll(t, inTail("\r", 3), "\r\n", inTail("", 3), "")
	wantAll(t, inTail("a", 3), "\n", inTail("", 3), "")
}

// ends are what may end a line.
func ends() []string { return []string{"\n", "\r\n"} }

// P8.1: sizes, in small and great letters, with zeros ahead, blanks and bytes 9 around them, and anything behind a `;`.
func TestFeedSizes(t *testing.T) {
	for s, want := range map[string]int{
		"1": 1, "9": 9, "a": 10, "A": 10, "f": 15, "F": 15, "10": 16, "1f": 31, "1F": 31, "ff": 255, "FF": 255, "fF": 255, "Ff": 255, "100": 256, "abc": 2748, "ABC": 2748, "dEf": 3567, "4e1f": 19999, "4E20": 20000,
		"01": 1, "0a": 10, "00": 0, "0000": 0, "0004e20": 20000, strings.Repeat("0", 190) + "1": 1, strings.Repeat("0", 190): 0,
		" 1": 1, "1 ": 1, "\t1": 1, "1\t": 1, " \t 1 \t ": 1, "\t\t0\t\t": 0, strings.Repeat(" ", 150) + "a" + strings.Repeat("\t", 40): 10,
		"1;": 1, "1;x": 1, "1;x=y": 1, "1; x=\"a;b\"": 1, "1 ;x": 1, "1\t ;": 1, " 1 ; ": 1, "1;;": 1, "1;2": 1, "1;g": 1, "1;\x00\xff": 1, "1;\r": 1, "0;x": 0, "0;1": 0, "a;fffffffffffff": 10,
	} {
		for _, end := range ends() {
			if want == 0 {
				wantAll(t, api.Chunked{}, s+end, inTail("", 0), "")
			} else {
				wantAll(t, api.Chunked{}, s+end, inData(want, 0), "")
			}
		}
	}
}

// P8.1: ErrChunk, if there is no digit, or a byte that is none.
func TestFeedNoSizes(t *testing.T) {
	for _, s := range []string{
		"", " ", "\t", " \t ", ";", " ;", ";1", "\t;1", ";;", "; 1",
		"g", "G", "x", "0x1", "0X1", "1g", "g1", "1 1", "1\t1", "1,1", "1:", "-1", "+1", "-0", "1.", ".1", "1_0", "1h", "#1", "\"1\"", "1=2;", "a b;c", "\x001", "1\x00", "1\x80", "é", "１", "\u00a01", "1\u2003", "\v1", "1\f", "@", "`", "/", "fffffffffffffffffffffg", "gfffffffffffffffffffff", "4e21g", "1 ff",
	} {
		for _, end := range ends() {
			for _, size := range []int{0, 5, 20000} {
				wantBad(t, inSize("", size), s+end, api.ErrChunk)
				wantBad(t, inSize(s, size), end, api.ErrChunk)
				wantBad(t, inSize("", size), s+end+"abc\r\n0\r\n\r\n", api.ErrChunk)
			}
		}
	}
}

// P8.1: ErrLong, if the size is above 20000 less Size, or has too many digits.
func TestFeedTooLong(t *testing.T) {
	for _, had := range []int{0, 1, 2, 15, 16, 255, 10000, 19984, 19985, 19998, 19999, 20000} {
		for _, end := range ends() {
			c := inSize("", had)
			most := strconv.FormatInt(int64(20000-had), 16)
			if had < 20000 {
				wantAll(t, c, most+end, inData(20000-had, had), "")
				wantAll(t, c, "00"+strings.ToUpper(most)+" ;x"+end, inData(20000-had, had), "")
			}
			wantAll(t, c, "0"+end, inTail("", had), "")
			for _, more := range []int{1, 2, 3, 20000, 1 << 16, 1 << 30, 1 << 31, 1 << 32, 1<<40 - 1, 1 << 40, 1<<40 + 1, 1 << 50, 1 << 62} {
				s := strconv.FormatUint(uint64(20000-had+more), 16)
				wantBad(t, c, s+end, api.ErrLong)
				wantBad(t, c, " 0"+strings.ToUpper(s)+"\t;x"+end, api.ErrLong)
			}
			for _, count := range []int{11, 12, 15, 16, 17, 18, 32, 33, 64, 65, 190} {
				wantBad(t, c, strings.Repeat("f", count)+end, api.ErrLong)
				wantBad(t, c, "1"+strings.Repeat("0", count)+end, api.ErrLong)
			}
		}
	}
}

// P8.1: each byte as a size, ahead of a digit, behind one and between two.
func TestFeedEachByteOfSizes(t *testing.T) {
	const hex = "0123456789abcdefABCDEF"
	for n := range 256 {
		c := oneByte(n)
		if c == "\n" {
			continue
		}
		isDigit, isBlank := strings.Contains(hex, c), c == " " || c == "\t"
		for _, s := range []string{c, c + "1", "1" + c, "1" + c + "1", "g" + c, c + "g"} {
			value, _, _ := strings.Cut(strings.TrimSuffix(s, "\r"), ";")
			value = strings.Trim(value, " \t")
			size, err := strconv.ParseUint(value, 16, 16)
			switch {
			case err != nil || !isDigit && !isBlank && strings.Contains(value, c):
				wantBad(t, inSize("", 7), s+"\n", api.ErrChunk)
			case size == 0:
				wantAll(t, inSize("", 7), s+"\n", inTail("", 7), "")
			default:
				wantAll(t, inSize("", 7), s+"\n", inData(int(size), 7), "")
			}
		}
	}
}

// P8.1: in CData each byte is data.
func TestFeedData(t *testing.T) {
	for n := range 256 {
		c := oneByte(n)
		wantAll(t, inData(1, 0), c, inEnd("", 1), c)
		wantAll(t, inData(2, 0), c, inData(1, 1), c)
		wantAll(t, inData(2, 5), c+c, inEnd("", 7), c+c)
		wantAll(t, inData(1, 19999), c, inEnd("", 20000), c)
		wantAll(t, inData(1, 4), c+"\r\n", inSize("", 5), c)
		wantAll(t, inData(1, 4), c+"\n0\n\n", done(5), c)
		switch c {
		case "\n":
			wantAll(t, inData(1, 0), "a"+c, inSize("", 1), "a")
		default:
			wantAll(t, inData(1, 0), "a"+c, inEnd(c, 1), "a")
		}
	}
	wantAll(t, inData(256, 0), everyByte(), inEnd("", 256), everyByte())
	wantAll(t, inData(20000, 0), fill(20000), inEnd("", 20000), fill(20000))
	wantAll(t, inData(20000, 0), fill(19999), inData(1, 19999), fill(19999))
	wantAll(t, inData(20000, 0), fill(20000)+"\r\n0\r\n\r\n", done(20000), fill(20000))
	wantBad(t, inData(20000, 0), fill(20000)+"\r\n1\r\n", api.ErrLong)
	wantBad(t, inData(5, 0), fill(6)+"\r\n", api.ErrChunk)
}

// P8.1: an error is told with zero values, whatever was read ahead of it.
func TestFeedErrorsBehindData(t *testing.T) {
	for s, bad := range map[string]api.Errno{
		"1\r\nabc\r\n":                       api.ErrChunk,
		"3\r\nabc\r\nx\r\n":                  api.ErrChunk,
		"3\r\nabc\r\n\r\n":                   api.ErrChunk,
		"3\r\nabc\n\n":                       api.ErrChunk,
		"3\r\nabc\r\r\n":                     api.ErrChunk,
		"3\r\nabc" + fill(201):               api.ErrChunk,
		"3\r\nabc\r\n" + fill(201):           api.ErrChunk,
		"3\r\nabc\r\n0\r\n" + fill(201):      api.ErrChunk,
		"3\r\nabc\r\n0\r\nt\r\n" + fill(201): api.ErrChunk,
		"3\r\nabc\r\n4e1e\r\n":               api.ErrLong,
		"3\r\nabc\r\nfffffffffff\r\n":        api.ErrLong,
		"3\r\nabc\r\n4e1e\r\nabc":            api.ErrLong,
		"x\r\n":                              api.ErrChunk,
		"\r\n":                               api.ErrChunk,
		"4e21\r\n":                           api.ErrLong,
	} {
		wantBad(t, api.Chunked{}, s, bad)
	}
	wantAll(t, api.Chunked{}, "3\r\nabc\r\n4e1d\r\n", inData(19997, 3), "abc")
}

// model reads as the chapter's words say it, one byte after the other.
type model struct {
	api.Chunked
	data  string
	count int
	bad   api.Errno
}

var hexDigits = regexp.MustCompile(`^[0-9a-fA-F]+$`)

func (m *model) readByte(c byte) {
	switch {
	case m.Stage == api.CData:
		m.data += string([]byte{c})
		m.Size++
		m.Left--
		if m.Left == 0 {
			m.Stage = api.CEnd
		}
	case c != '\n' && len(m.Line) == 200:
		m.bad = api.ErrChunk
	case c != '\n':
		m.Line += string([]byte{c})
	default:
		line := m.Line
		m.Line = ""
		m.readLine(strings.TrimSuffix(line, "\r"))
	}
}

func (m *model) readLine(line string) {
	switch {
	case m.Stage == api.CSize:
		m.readSize(strings.Trim(strings.SplitN(line, ";", 2)[0], " \t"))
	case m.Stage == api.CEnd && line == "":
		m.Stage = api.CSize
	case m.Stage == api.CEnd:
		m.bad = api.ErrChunk
	case line == "":
		m.Stage = api.CDone
	}
}

func (m *model) readSize(digits string) {
	if !hexDigits.MatchString(digits) {
		m.bad = api.ErrChunk
		return
	}
	n, err := strconv.ParseInt(digits, 16, 42)
	switch {
	case err != nil || int(n)+m.Size > 20000:
		m.bad = api.ErrLong
	case n == 0:
		m.Stage = api.CTail
	default:
		m.Stage, m.Left = api.CData, int(n)
	}
}

func told(c api.Chunked, s string) model {
	m := model{Chunked: c}
	for m.count < len(s) && m.Stage != api.CDone {
		m.readByte(s[m.count])
		if m.bad != api.OK {
			return model{bad: m.bad}
		}
		m.count++
	}
	return m
}

func wantTold(t *testing.T, c api.Chunked, s string) {
	t.Helper()
	if m := told(c, s); m.bad != api.OK {
		wantBad(t, c, s, m.bad)
	} else {
		wantFeed(t, c, s, m.Chunked, m.data, m.count)
	}
}

// eachText hands on all texts of up to so many of the parts.
func eachText(parts []string, most int, do func(s string)) {
	do("")
	if most == 0 {
		return
	}
	for _, p := range parts {
		eachText(parts, most-1, func(s string) { do(p + s) })
	}
}

// beginnings are what all short texts are read from: each stage, with little and with much behind it.
func beginnings() []api.Chunked {
	return []api.Chunked{
		{}, inSize("1", 0), inSize("\r", 0), inSize("0;", 20000), inSize("", 19999), inSize("", 20000),
		inData(1, 0), inData(2, 3), inData(1, 19999),
		inEnd("", 3), inEnd("\r", 3), inEnd("", 20000),
		inTail("", 0), inTail("\r", 0), inTail("a", 20000), inTail(fill(199), 0),
		done(0), done(20000),
	}
}

// P8.1: all texts of up to five of these bytes, and of up to six of these parts, read byte by byte.
func TestFeedAllShort(t *testing.T) {
	for _, c := range beginnings() {
		eachText([]string{"0", "1", "F", "g", ";", " ", "\r", "\n"}, 5, func(s string) { wantTold(t, c, s) })
	}
	eachText([]string{"0\r\n", "1\r\n", "2\n", "\r\n", "\n", "a", "4e20\n"}, 6, func(s string) { wantTold(t, api.Chunked{}, s) })
}

// P8.1, P1: any bytes, in every stage.
func TestFeedAnyBytes(t *testing.T) {
	for _, c := range append(beginnings(), rights()...) {
		for n := range 256 {
			b := oneByte(n)
			for _, s := range []string{b, b + b, b + "\n", "\n" + b, "\r\n" + b + "\r\n", "1" + b + "\n", b + "1\r\n", "1;" + b + "\n", strings.Repeat(b, 201), strings.Repeat(b, 300) + "\n"} {
				wantTold(t, c, s)
			}
		}
		wantTold(t, c, everyByte())
		wantTold(t, c, everyByte()+everyByte())
	}
}

// P8.2: Encode and End.
func TestEncode(t *testing.T) {
	for digits, s := range map[string]string{
		"1": "a", "3": "abc", "2": "\r\n", "5": "0\r\n\r\n", "9": fill(9), "a": fill(10), "f": fill(15), "10": fill(16), "11": fill(17), "ff": fill(255), "100": everyByte(), "101": fill(257), "abc": fill(2748), "4e1f": fill(19999), "4e20": fill(20000), "4e21": fill(20001), "100000": fill(long),
	} {
		if got := Encode(s); got != digits+"\r\n"+s+"\r\n" {
			t.Errorf("Encode(%.60q), of %d bytes, = %.60q of %d bytes", s, len(s), got, len(got))
		}
	}
	for n := range 256 {
		if got := Encode(oneByte(n)); got != "1\r\n"+oneByte(n)+"\r\n" {
			t.Errorf("Encode(%q) = %q", oneByte(n), got)
		}
	}
	if got := Encode(""); got != "" {
		t.Errorf("Encode of nothing = %q", got)
	}
	if got := End(); got != "0\r\n\r\n" {
		t.Errorf("End() = %q", got)
	}
}

// feedPieces reads one piece behind the other, up to an error: all data, and all bytes that were read.
func feedPieces(c api.Chunked, pieces ...string) (api.Chunked, string, int, api.Errno) {
	data, count := "", 0
	for _, p := range pieces {
		next, more, read, bad := Feed(c, p)
		if bad != api.OK {
			return api.Chunked{}, "", 0, bad
		}
		c, data, count = next, data+more, count+read
	}
	return c, data, count, api.OK
}

func wantAsAtOnce(t *testing.T, c api.Chunked, pieces ...string) {
	t.Helper()
	s := strings.Join(pieces, "")
	want, wantData, wantCount, wantBad := Feed(c, s)
	got, data, count, bad := feedPieces(c, pieces...)
	if got != want || data != wantData || count != wantCount || bad != wantBad {
		t.Errorf("of %.60v, %.60q in the pieces %.60q: %.60v, %.60q, %d, %d; at once: %.60v, %.60q, %d, %d", c, s, pieces, got, data, count, bad, want, wantData, wantCount, wantBad)
	}
}

// wantAnyPieces cuts a text into any two and three pieces, and into single bytes.
func wantAnyPieces(t *testing.T, c api.Chunked, s string) {
	t.Helper()
	for a := range len(s) + 1 {
		wantAsAtOnce(t, c, s[:a], s[a:])
		for b := a; b <= len(s); b++ {
			wantAsAtOnce(t, c, s[:a], s[a:b], s[b:])
		}
	}
	var single []string
	for at := range len(s) {
		single = append(single, s[at:at+1])
	}
	wantAsAtOnce(t, c, single...)
}

// P8.3: bytes that are read in any pieces are read as at once, whether they come to an end, to an error or to neither.
func TestFeedPieces(t *testing.T) {
	for _, s := range []string{
		"3\r\nabc\r\n0\r\n\r\n", "3;x\r\nabc\r\n0\r\nt: 1\r\n\r\nmore", "5\nab\ncd\n 1F ;y\n" + fill(31) + "\r\n0\n\n\n", "2\r\n\r\n\r\n00\r\n\r\r\n\r\n0\r\n\r\n",
		"5\r\nab", "3\r\nabc\r", "3\r\nabc\r\n0\r\nt", "12", "1 \t\r",
		"x\r\n", "3\r\nabcd\r\n0\r\n\r\n", "3\r\nabc\r\n4e1e\r\nx", "\r\n", "3\r\nabc\r\r\n0\r\n\r\n", "1\r\r\na\r\n", "fffffffffffffffff\r\n\r\n", "0\r\n" + fill(199) + "\r\n\r\n", "0\r\n" + fill(200) + "\r\n\r\n", "1;" + fill(197) + "\r\na\r\n0\n\nb", "1;" + fill(198) + "\r\na\r\n0\n\n",
	} {
		for _, c := range []api.Chunked{{}, inSize("", 19990), inData(2, 3), inEnd("", 3), inTail("", 3), done(3)} {
			wantAnyPieces(t, c, s)
		}
	}
	wantAnyPieces(t, api.Chunked{}, "100\r\n"+everyByte()+"\r\n0\r\n\r\nbehind")
}

// P8.3: all texts of up to five of these parts, in any two and three pieces.
func TestFeedPiecesAllShort(t *testing.T) {
	eachText([]string{"0\r\n", "2\r\n", "\r\n", "\n", "a", ";"}, 5, func(s string) { wantAnyPieces(t, api.Chunked{}, s) })
}

// P8.3: a great body in many pieces.
func TestFeedManyPieces(t *testing.T) {
	data := strings.Repeat(everyByte(), 78) + fill(32)
	s := Encode(data[:1]) + Encode(data[1:17]) + Encode(data[17:]) + End()
	for _, size := range []int{1, 2, 3, 7, 100, 199, 200, 201, 4096, 19999} {
		var pieces []string
		for at := 0; at < len(s); at += size {
			pieces = append(pieces, s[at:min(at+size, len(s))])
		}
		got, gotData, count, bad := feedPieces(api.Chunked{}, pieces...)
		if got != done(20000) || gotData != data || count != len(s) || bad != api.OK {
			t.Errorf("in pieces of %d bytes: %v, %d bytes, %d, %d", size, got, len(gotData), count, bad)
		}
	}
}

// behinds are what may stand behind the end.
func behinds() []string {
	return []string{"", "\r", "\n", "\r\n", "\r\n\r\n", "x", "0\r\n\r\n", "3\r\nabc\r\n", "HTTP/1.1 200 OK\r\n\r\n", fill(201), everyByte(), strings.Repeat("\n", 1000)}
}

// wantDataAgain has data in chunks, and the end, be read as these data.
func wantDataAgain(t *testing.T, parts ...string) {
	t.Helper()
	data, s := strings.Join(parts, ""), ""
	for _, p := range parts {
		s += Encode(p)
	}
	wantAll(t, api.Chunked{}, s, inSize("", len(data)), data)
	s += End()
	for _, behind := range behinds() {
		wantFeed(t, api.Chunked{}, s+behind, done(len(data)), data, len(s))
	}
}

// P8.3: data in one chunk, of any length that may be, and any bytes.
func TestDataAgain(t *testing.T) {
	wantDataAgain(t)
	for _, size := range []int{0, 1, 2, 9, 10, 15, 16, 17, 255, 256, 257, 4095, 4096, 19999, 20000} {
		wantDataAgain(t, fill(size))
		wantDataAgain(t, strings.Repeat("\n", size))
		wantDataAgain(t, strings.Repeat("\r", size))
	}
	for n := range 256 {
		wantDataAgain(t, oneByte(n))
		wantDataAgain(t, oneByte(n)+oneByte(n), oneByte(n))
	}
	wantDataAgain(t, everyByte(), everyByte())
	wantDataAgain(t, Encode("abc")+End(), End())
	// A body has at most 20000 bytes, so data of more are written, and not read.
	wantBad(t, api.Chunked{}, Encode(fill(20001))+End(), api.ErrLong)
	wantBad(t, api.Chunked{}, Encode(fill(20000))+Encode("a")+End(), api.ErrLong)
}

// P8.3: data in several chunks; one without data writes nothing, and so ends nothing.
func TestDataInChunksAgain(t *testing.T) {
	parts := []string{"", "a", "\r\n", "0\r\n\r\n", "\x00\xff", fill(16)}
	for _, a := range parts {
		for _, b := range parts {
			for _, c := range parts {
				wantDataAgain(t, a, b, c)
			}
		}
	}
	wantDataAgain(t, fill(1), fill(19998), fill(1))
	wantDataAgain(t, fill(10000), fill(10000))
	var many []string
	for n := range 190 {
		many = append(many, fill(n))
	}
	wantDataAgain(t, many...)
	var single []string
	for at := range 20000 {
		single = append(single, oneByte(at%256))
	}
	wantDataAgain(t, single...)
}

// P1: a call ends soon, whatever is handed in.
func TestFeedMuch(t *testing.T) {
	wantAll(t, inTail("", 0), strings.Repeat("a\n", long), inTail("", 0), "")
	wantAll(t, inTail("", 0), strings.Repeat("\r\r\n", long), inTail("", 0), "")
	wantBad(t, inTail("", 0), strings.Repeat("a", 16*long), api.ErrChunk)
	wantBad(t, api.Chunked{}, strings.Repeat("\x00", 16*long), api.ErrChunk)
	wantFeed(t, api.Chunked{}, strings.Repeat("0\n\n", long), done(0), "", 3)
}
