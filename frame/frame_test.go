package frame

import (
	"fmt"
	"math"
	"math/big"
	"regexp"
	"slices"
	"strconv"
	"strings"
	"testing"

	"intarsia/api"
)

const (
	length = "Content-Length"
	coding = "Transfer-Encoding"
	// most is the longest number that may be, 2^40; tooLong is one more.
	most    = "1099511627776"
	tooLong = "1099511627777"
	// long is far beyond any limit.
	long = 1 << 20
)

func ask(minor int) api.Start { return api.Start{Method: "GET", Target: "/", Minor: minor} }

func answer(code, minor int) api.Start { return api.Start{Code: code, Reason: "x", Minor: minor} }

func sized(size int) api.Body { return api.Body{Kind: api.BSize, Size: size} }

func kind(n int) api.Body { return api.Body{Kind: n} }

func one(name, value string) []api.Field { return []api.Field{{Name: name, Value: value}} }

// named has each value have that name.
func named(name string, values ...string) []api.Field {
	var l []api.Field
	for _, value := range values {
		l = append(l, api.Field{Name: name, Value: value})
	}
	return l
}

// others are fields that say nothing of a body, each one another.
func others(count int) []api.Field {
	var l []api.Field
	for n := range count {
		l = append(l, api.Field{Name: "X-" + strconv.Itoa(n), Value: strconv.Itoa(n)})
	}
	return l
}

func oneByte(n int) string { return string([]byte{byte(n)}) }

func fill(count int) string { return strings.Repeat("x", count) }

// told cuts a row short, so that a fault's report can be read.
func told(l []api.Field) string { return fmt.Sprintf("%d fields %.200q", len(l), l) }

func wantRequest(t *testing.T, s api.Start, l []api.Field, want api.Body, wantBad api.Errno) {
	t.Helper()
	if got, bad := Request(s, l); got != want || bad != wantBad {
		t.Errorf("Request(%.80v, %s) = %v, %d; want %v, %d", s, told(l), got, bad, want, wantBad)
	}
}

func wantAnswer(t *testing.T, s api.Start, l []api.Field, method string, want api.Body, wantBad api.Errno) {
	t.Helper()
	if got, bad := Answer(s, l, method); got != want || bad != wantBad {
		t.Errorf("Answer(%.80v, %s, %.40q) = %v, %d; want %v, %d", s, told(l), method, got, bad, want, wantBad)
	}
}

// wantSay asks Request and Answer, which take fields to say the same.
func wantSay(t *testing.T, minor int, l []api.Field, want api.Body, wantBad api.Errno) {
	t.Helper()
	wantRequest(t, ask(minor), l, want, wantBad)
	wantAnswer(t, answer(200, minor), l, "GET", want, wantBad)
}

// wantEither has Minor not matter.
func wantEither(t *testing.T, l []api.Field, want api.Body, wantBad api.Errno) {
	t.Helper()
	wantSay(t, 0, l, want, wantBad)
	wantSay(t, 1, l, want, wantBad)
}

// wantChunks asks for Minor 1; Minor 0 may have no such body.
func wantChunks(t *testing.T, l []api.Field) {
	t.Helper()
	wantSay(t, 1, l, kind(api.BChunk), api.OK)
	wantSay(t, 0, l, api.Body{}, api.ErrFrame)
}

// wantNothing has a request have no body, and an answer one up to the end.
func wantNothing(t *testing.T, l []api.Field) {
	t.Helper()
	for minor := range 2 {
		wantRequest(t, ask(minor), l, kind(api.BNone), api.OK)
		wantAnswer(t, answer(200, minor), l, "GET", kind(api.BClose), api.OK)
	}
}

func wantWith(t *testing.T, l []api.Field, b api.Body, want []api.Field) {
	t.Helper()
	if got, bad := With(l, b); !slices.Equal(got, want) || bad != api.OK {
		t.Errorf("With(%s, %v) = %s, %d; want %s", told(l), b, told(got), bad, told(want))
	}
}

// wantWithBad has the error be told with no row.
func wantWithBad(t *testing.T, l []api.Field, b api.Body, want api.Errno) {
	t.Helper()
	if got, bad := With(l, b); len(got) != 0 || bad != want {
		t.Errorf("With(%s, %v) = %s, %d; want the error %d alone", told(l), b, told(got), bad, want)
	}
}

// wrongStarts are first lines that may not be, each by one of its parts.
func wrongStarts() []api.Start {
	return []api.Start{
		{},
		{Minor: 1},
		ask(-1), ask(2), ask(math.MaxInt), ask(math.MinInt),
		{Target: "/", Minor: 1},
		{Method: "G T", Target: "/", Minor: 1},
		{Method: fill(21), Target: "/", Minor: 1},
		{Method: fill(long), Target: "/", Minor: 1},
		{Method: "GET", Minor: 1},
		{Method: "GET", Target: "x", Minor: 1},
		{Method: "GET", Target: "/a b", Minor: 1},
		{Method: "GET", Target: "/" + fill(500), Minor: 1},
		{Method: "GET", Target: "/", Reason: "OK", Minor: 1},
		{Method: "GET", Target: "/", Code: 200, Minor: 1},
		{Method: "GET", Target: "/", Code: 99, Minor: 1},
		{Method: "GET", Code: 200, Minor: 1},
		{Target: "/", Code: 200, Minor: 1},
		answer(200, -1), answer(200, 2), answer(200, math.MaxInt), answer(204, 2),
		answer(0, 1), answer(-1, 1), answer(-200, 1), answer(1, 1), answer(99, 1), answer(600, 1), answer(math.MaxInt, 1), answer(math.MinInt, 1),
		{Code: 200, Reason: " OK", Minor: 1},
		{Code: 200, Reason: "O\rK", Minor: 1},
		{Code: 304, Reason: fill(101), Minor: 1},
	}
}

// wrongRows are rows that may not be, each by one thing alone.
func wrongRows() [][]api.Field {
	return [][]api.Field{
		others(41),
		others(long / 100),
		append(others(40), api.Field{Name: length, Value: "5"}),
		append(one(coding, "chunked"), others(40)...),
		named(length, slices.Repeat([]string{"5"}, 41)...),
		one("", ""), one("", "5"), one("a b", "x"), one("a:", "x"), one("é", "x"), one("a\n", "x"),
		one(length+" ", "5"), one(" "+length, "5"), one(length+":", "5"),
		one("a", " x"), one("a", "x "), one("a", "\tx"), one("a", "x\t"), one("a", " "), one("a", "x\ny"), one("a", "\x00"), one("a", "\x7f"),
		one(length, " 5"), one(length, "5 "), one(length, "5\r"), one(length, "5\n"), one(length, "\x00"),
		one(coding, "chunked "), one(coding, "\tchunked"), one(coding, "chunked\r\n"),
		one("a", fill(1001)), one(length, strings.Repeat("0", 1001)), one(coding, fill(long)),
		append(one(length, "5"), api.Field{}),
		append(one(coding, "chunked"), api.Field{Name: "a", Value: "\x01"}),
		append(others(39), api.Field{Value: "x"}),
	}
}

// rows are some that may be, whatever they say.
func rows() [][]api.Field {
	return [][]api.Field{
		nil, {}, others(1), others(40),
		one(length, "5"), one(length, "0"), one(length, "x"), one(length, ""), one(length, "20001"), one(length, tooLong),
		named(length, "5", "6"), named(length, "x", tooLong),
		one(coding, "chunked"), one(coding, "gzip"), one(coding, ""), named(coding, "chunked", "chunked"),
		append(one(coding, "chunked"), one(length, "5")...),
		append(one(length, "x"), one(coding, "y")...),
	}
}

// P9.1: the chapter's examples.
func TestExamples(t *testing.T) {
	wantEither(t, []api.Field{{Name: "Content-Length", Value: "5"}, {Name: "content-length", Value: "05"}}, api.Body{Kind: 1, Size: 5}, api.OK)
	wantEither(t, []api.Field{{Name: "Transfer-Encoding", Value: "gzip, chunked"}}, api.Body{}, api.ErrFrame)
}

// P9.1: ErrArg, if the first line may not be, whatever stands beside it.
func TestWrongStarts(t *testing.T) {
	for _, s := range wrongStarts() {
		for _, l := range slices.Concat(rows(), wrongRows()) {
			wantRequest(t, s, l, api.Body{}, api.ErrArg)
			for _, method := range []string{"GET", "HEAD", ""} {
				wantAnswer(t, s, l, method, api.Body{}, api.ErrArg)
			}
		}
	}
}

// P9.1: ErrArg, if a request's line stands where an answer's is asked, or the other way round.
func TestStartsOfTheOther(t *testing.T) {
	for _, l := range slices.Concat(rows(), wrongRows()) {
		for minor := range 2 {
			for _, code := range []int{100, 199, 200, 204, 304, 404, 599} {
				wantRequest(t, answer(code, minor), l, api.Body{}, api.ErrArg)
			}
			for _, method := range []string{"GET", "HEAD", "head", ""} {
				wantAnswer(t, ask(minor), l, method, api.Body{}, api.ErrArg)
				wantAnswer(t, api.Start{Method: "HEAD", Target: "*", Minor: minor}, l, method, api.Body{}, api.ErrArg)
			}
		}
	}
}

// P9.1: ErrArg, if the row may not be, even where an answer has no body.
func TestWrongRows(t *testing.T) {
	for _, l := range wrongRows() {
		for minor := range 2 {
			wantRequest(t, ask(minor), l, api.Body{}, api.ErrArg)
			for _, code := range []int{100, 199, 200, 204, 304, 599} {
				for _, method := range []string{"GET", "HEAD", ""} {
					wantAnswer(t, answer(code, minor), l, method, api.Body{}, api.ErrArg)
				}
			}
		}
	}
}

// P9.1: a row of 40 may be, and each of its fields is asked.
func TestFullRows(t *testing.T) {
	wantNothing(t, others(40))
	for at := range 40 {
		l := others(40)
		l[at] = api.Field{Name: length, Value: "7"}
		wantEither(t, l, sized(7), api.OK)
		l[at] = api.Field{Name: coding, Value: "chunked"}
		wantChunks(t, l)
		l[at] = api.Field{Name: length, Value: "x"}
		wantEither(t, l, api.Body{}, api.ErrFrame)
		l[39-at] = api.Field{Name: length, Value: "20001"}
		wantEither(t, l, api.Body{}, api.ErrFrame)
	}
	same := named(length, slices.Repeat([]string{"7"}, 40)...)
	wantEither(t, same, sized(7), api.OK)
	for at := range same {
		l := slices.Clone(same)
		l[at].Value = "8"
		wantEither(t, l, api.Body{}, api.ErrFrame)
		l[at].Value = "0007"
		wantEither(t, l, sized(7), api.OK)
	}
}

// P9.1: where fields say nothing: BNone of a request, BClose of an answer. Names that are just alike are others.
func TestNothing(t *testing.T) {
	wantNothing(t, nil)
	wantNothing(t, []api.Field{})
	for _, name := range []string{
		"a", "Length", "Content", "Content-Lengt", "ontent-Length", "Content-Lengths", "XContent-Length", "ContentLength", "Content_Length", "Content-Type", "Content.Length",
		"Transfer-Encodin", "ransfer-Encoding", "Transfer-Encodings", "TransferEncoding", "Transfer_Encoding", "Content-Encoding", "TE", "Transfer", "Encoding", "chunked",
	} {
		for _, value := range []string{"", "0", "5", "x", "20001", "chunked", "gzip", "Content-Length: 5", tooLong} {
			wantNothing(t, one(name, value))
			wantNothing(t, append(one(name, value), others(3)...))
			wantEither(t, append(one(name, value), one(length, "6")...), sized(6), api.OK)
			wantChunks(t, append(one(coding, "chunked"), one(name, value)...))
		}
	}
}

// cases are a text with each choice of small and great letters of its first bytes.
func cases(s string, letters int) []string {
	all := []string{""}
	for at := range len(s) {
		var grown []string
		for _, begun := range all {
			grown = append(grown, begun+strings.ToLower(s[at:at+1]))
			if at < letters && strings.ToUpper(s[at:at+1]) != strings.ToLower(s[at:at+1]) {
				grown = append(grown, begun+strings.ToUpper(s[at:at+1]))
			}
		}
		all = grown
	}
	return append(all, strings.ToUpper(s))
}

// P9.1: names are the same in small and great letters.
func TestNames(t *testing.T) {
	for _, name := range cases(length, 8) {
		wantEither(t, one(name, "9"), sized(9), api.OK)
		wantEither(t, append(one(name, "9"), one(length, "8")...), api.Body{}, api.ErrFrame)
		wantSay(t, 1, append(one(name, "9"), one(coding, "chunked")...), api.Body{}, api.ErrFrame)
	}
	for _, name := range cases(coding, 8) {
		wantChunks(t, one(name, "chunked"))
		wantSay(t, 1, append(one(coding, "chunked"), one(name, "chunked")...), api.Body{}, api.ErrFrame)
		wantSay(t, 1, append(one(length, "9"), one(name, "chunked")...), api.Body{}, api.ErrFrame)
	}
}

// P9.1: `chunked` alone, in small and great letters, of Minor 1.
func TestChunked(t *testing.T) {
	for _, value := range cases("chunked", 7) {
		wantChunks(t, one(coding, value))
		wantChunks(t, slices.Concat(others(2), one(coding, value), others(3)))
	}
}

// P9.1: ErrFrame, if all of Transfer-Encoding is not `chunked`: another word in its place or beside it, none, and one given several times.
func TestOtherCodings(t *testing.T) {
	for _, values := range [][]string{
		{""}, {"gzip"}, {"identity"}, {"chunke"}, {"hunked"}, {"chunkedx"}, {"xchunked"}, {"chunked;q=1"}, {"chunked,"}, {",chunked"}, {"chunked chunked"}, {"\"chunked\""}, {"chun ked"}, {"chun\tked"},
		{"gzip, chunked"}, {"gzip,chunked"}, {"chunked, gzip"}, {"chunked, chunked"}, {"chunked,chunked"}, {"chunKed\u212a"}, {"chun\u212aed"}, {"chunked\xff"}, {"5"}, {"0"}, {fill(1000)},
		{"chunked", "chunked"}, {"chunked", "Chunked"}, {"chunked", ""}, {"", "chunked"}, {"", ""}, {"gzip", "chunked"}, {"chunked", "gzip"}, {"chun", "ked"}, {"chunked", "chunked", "chunked"},
	} {
		l := named(coding, values...)
		wantEither(t, l, api.Body{}, api.ErrFrame)
		wantEither(t, slices.Concat(others(1), l, others(1)), api.Body{}, api.ErrFrame)
	}
	for at := range len("chunked") + 1 {
		for n := range 256 {
			within := "chunked"[:at] + oneByte(n) + "chunked"[at:]
			want := api.ErrFrame
			// Blanks at the ends, and control bytes anywhere, are of no field that may be.
			if n < 32 && n != 9 || n == 127 || (n == 9 || n == 32) && (at == 0 || at == 7) {
				want = api.ErrArg
			}
			wantEither(t, one(coding, within), api.Body{}, want)
		}
	}
}

// P9.1: each byte in the place of each letter of `chunked`.
func TestCodingBytes(t *testing.T) {
	for at := range len("chunked") {
		for n := range 256 {
			value := "chunked"[:at] + oneByte(n) + "chunked"[at+1:]
			switch {
			case byte(n) == "chunked"[at] || byte(n) == "CHUNKED"[at]:
				wantChunks(t, one(coding, value))
			case n < 32 && n != 9 || n == 127 || (n == 9 || n == 32) && (at == 0 || at == 6):
				wantEither(t, one(coding, value), api.Body{}, api.ErrArg)
			default:
				wantEither(t, one(coding, value), api.Body{}, api.ErrFrame)
			}
		}
	}
}

// P9.1: ErrFrame, if Content-Length stands beside Transfer-Encoding, whatever both say.
func TestCodingWithLength(t *testing.T) {
	for _, said := range []string{"chunked", "Chunked", "gzip", "", "gzip, chunked"} {
		for _, size := range []string{"0", "5", "20000", "20001", tooLong, "", "x", "-1"} {
			wantEither(t, append(one(coding, said), one(length, size)...), api.Body{}, api.ErrFrame)
			wantEither(t, append(one(length, size), one(coding, said)...), api.Body{}, api.ErrFrame)
			wantEither(t, slices.Concat(one("content-length", size), others(5), one("TRANSFER-ENCODING", said)), api.Body{}, api.ErrFrame)
			wantEither(t, slices.Concat(named(length, size, size), one(coding, said)), api.Body{}, api.ErrFrame)
		}
	}
}

// P9.1: each number up to 20000 is a size, and those above are too long.
func TestSizes(t *testing.T) {
	for size := range 20100 {
		want, bad := sized(size), api.OK
		if size > 20000 {
			want, bad = api.Body{}, api.ErrLong
		}
		wantSay(t, size%2, one(length, strconv.Itoa(size)), want, bad)
		wantSay(t, size%2, named(length, strconv.Itoa(size), "0"+strconv.Itoa(size)), want, bad)
	}
}

// P9.1: one value, at the edges: 0, 20000, 20001, longer than may be, and numbers that would be small ones if they wrapped round.
func TestOneLength(t *testing.T) {
	for value, want := range map[string]api.Body{
		"0": sized(0), "00": sized(0), "5": sized(5), "05": sized(5), "19999": sized(19999), "20000": sized(20000), "020000": sized(20000),
		strings.Repeat("0", 1000):          sized(0),
		strings.Repeat("0", 999) + "5":     sized(5),
		strings.Repeat("0", 995) + "20000": sized(20000),
	} {
		wantEither(t, one(length, value), want, api.OK)
	}
	for _, value := range []string{
		"20001", "020001", "65536", "65541", "99999", "4294967295", "4294967296", "4294967301", "1099511627775", most, tooLong, "1099511627781",
		"9223372036854775807", "9223372036854775808", "18446744073709551615", "18446744073709551616", "18446744073709551621", "36893488147419103237",
		strings.Repeat("0", 995) + "20001", strings.Repeat("9", 1000), "1" + strings.Repeat("0", 999),
	} {
		wantEither(t, one(length, value), api.Body{}, api.ErrLong)
		wantEither(t, named(length, value, value), api.Body{}, api.ErrLong)
		wantEither(t, named(length, value, value[:len(value)-1]+"x"), api.Body{}, api.ErrFrame)
	}
}

// notDigits are values that may be, and are no decimal digits.
func notDigits() []string {
	return []string{
		"", "-", "+", "-1", "+1", "-0", "+5", "5-", "5+", "x", "5x", "x5", "0x5", "5a", "a", "ff", "5.0", "5.", ".5", "1e3", "1_000", "1 000", "5\t5", "5,5", "5, 5", "5,", ",5", "5;5", "\"5\"",
		"5 ,5", "\u0665", "５", "5\xff", "\x80", "infinity", "NaN", "nil", fill(1000), strings.Repeat("9", 999) + "x", "x" + strings.Repeat("9", 999), tooLong + "x", "-" + tooLong, "20001x",
	}
}

// P9.1: ErrFrame, if a value is not decimal digits, alone or beside any other one.
func TestNotDigits(t *testing.T) {
	beside := append(notDigits(), "0", "5", "20000", "20001", most, tooLong, strings.Repeat("9", 1000))
	for _, value := range notDigits() {
		wantEither(t, one(length, value), api.Body{}, api.ErrFrame)
		for _, other := range beside {
			wantEither(t, named(length, value, other), api.Body{}, api.ErrFrame)
			wantEither(t, named(length, other, value), api.Body{}, api.ErrFrame)
			wantSay(t, 1, named(length, other, other, value), api.Body{}, api.ErrFrame)
		}
	}
}

// P9.1: each byte as a value, ahead of a digit, behind one and between two.
func TestLengthBytes(t *testing.T) {
	for n := range 256 {
		digit := n >= '0' && n <= '9'
		for at, value := range []string{oneByte(n), oneByte(n) + "1", "1" + oneByte(n), "1" + oneByte(n) + "1"} {
			blank := n == 9 || n == 32
			switch {
			case digit:
				size, _ := strconv.Atoi(value)
				wantEither(t, one(length, value), sized(size), api.OK)
			case n < 32 && !blank || n == 127 || blank && at < 3:
				wantEither(t, one(length, value), api.Body{}, api.ErrArg)
			default:
				wantEither(t, one(length, value), api.Body{}, api.ErrFrame)
			}
		}
	}
}

// P9.1: several values are the same number, however they are written, or else ErrFrame; all that are longer than may be are the same.
func TestSeveralLengths(t *testing.T) {
	for _, x := range []struct {
		values []string
		want   api.Body
		bad    api.Errno
	}{
		{[]string{"5", "5"}, sized(5), api.OK},
		{[]string{"5", "05"}, sized(5), api.OK},
		{[]string{"05", "5", "005"}, sized(5), api.OK},
		{[]string{"0", "00"}, sized(0), api.OK},
		{[]string{"0", "0"}, sized(0), api.OK},
		{[]string{"20000", "020000"}, sized(20000), api.OK},
		{[]string{"5", strings.Repeat("0", 999) + "5"}, sized(5), api.OK},
		{[]string{"5", "6"}, api.Body{}, api.ErrFrame},
		{[]string{"6", "5"}, api.Body{}, api.ErrFrame},
		{[]string{"5", "50"}, api.Body{}, api.ErrFrame},
		{[]string{"0", "1"}, api.Body{}, api.ErrFrame},
		{[]string{"5", "5", "6"}, api.Body{}, api.ErrFrame},
		{[]string{"6", "5", "5"}, api.Body{}, api.ErrFrame},
		{[]string{"5", "6", "5"}, api.Body{}, api.ErrFrame},
		{[]string{"20000", "20001"}, api.Body{}, api.ErrFrame},
		{[]string{"20001", "20001"}, api.Body{}, api.ErrLong},
		{[]string{"20001", "0020001"}, api.Body{}, api.ErrLong},
		{[]string{"20001", "20002"}, api.Body{}, api.ErrFrame},
		{[]string{"5", "20001"}, api.Body{}, api.ErrFrame},
		{[]string{"5", "65541"}, api.Body{}, api.ErrFrame},
		{[]string{"5", "4294967301"}, api.Body{}, api.ErrFrame},
		{[]string{"5", "18446744073709551621"}, api.Body{}, api.ErrFrame},
		{[]string{"20001", tooLong}, api.Body{}, api.ErrFrame},
		{[]string{tooLong, "20001"}, api.Body{}, api.ErrFrame},
		{[]string{most, most}, api.Body{}, api.ErrLong},
		{[]string{most, "0" + most}, api.Body{}, api.ErrLong},
		{[]string{most, tooLong}, api.Body{}, api.ErrFrame},
		{[]string{tooLong, most}, api.Body{}, api.ErrFrame},
		{[]string{tooLong, tooLong}, api.Body{}, api.ErrLong},
		{[]string{tooLong, "1099511627778"}, api.Body{}, api.ErrLong},
		{[]string{tooLong, strings.Repeat("9", 1000), "18446744073709551616"}, api.Body{}, api.ErrLong},
		{[]string{tooLong, "0"}, api.Body{}, api.ErrFrame},
		{[]string{"0", tooLong}, api.Body{}, api.ErrFrame},
		{[]string{tooLong, "5"}, api.Body{}, api.ErrFrame},
		{[]string{"5", tooLong}, api.Body{}, api.ErrFrame},
		{[]string{tooLong, tooLong, "5"}, api.Body{}, api.ErrFrame},
		{[]string{tooLong, "x"}, api.Body{}, api.ErrFrame},
		{[]string{"x", tooLong}, api.Body{}, api.ErrFrame},
		{[]string{"x", "x"}, api.Body{}, api.ErrFrame},
		{[]string{"", ""}, api.Body{}, api.ErrFrame},
		{[]string{"", "0"}, api.Body{}, api.ErrFrame},
		{[]string{"5", ""}, api.Body{}, api.ErrFrame},
	} {
		l := named(length, x.values...)
		wantEither(t, l, x.want, x.bad)
		l[0].Name = "content-LENGTH"
		wantEither(t, slices.Concat(others(1), l[:1], others(2), l[1:], others(1)), x.want, x.bad)
	}
}

// P9.1: an answer of a Code below 200, of 204 and of 304 has no body, even where its fields are wrong.
func TestCodes(t *testing.T) {
	for code := 100; code <= 599; code++ {
		for minor := range 2 {
			s := answer(code, minor)
			if code < 200 || code == 204 || code == 304 {
				for _, l := range rows() {
					wantAnswer(t, s, l, "GET", kind(api.BNone), api.OK)
				}
				continue
			}
			wantAnswer(t, s, nil, "GET", kind(api.BClose), api.OK)
			wantAnswer(t, s, one(length, "5"), "GET", sized(5), api.OK)
			wantAnswer(t, s, one(length, "0"), "GET", sized(0), api.OK)
			wantAnswer(t, s, one(length, "x"), "GET", api.Body{}, api.ErrFrame)
			wantAnswer(t, s, one(length, "20001"), "GET", api.Body{}, api.ErrLong)
			wantAnswer(t, s, one(coding, "gzip"), "GET", api.Body{}, api.ErrFrame)
		}
	}
	for _, code := range []int{200, 201, 203, 205, 303, 305, 599} {
		wantAnswer(t, answer(code, 1), one(coding, "chunked"), "GET", kind(api.BChunk), api.OK)
		wantAnswer(t, answer(code, 0), one(coding, "chunked"), "GET", api.Body{}, api.ErrFrame)
	}
}

// P9.1: an answer to `HEAD`, just so written, has no body, even where its fields are wrong; other methods do not matter.
func TestMethods(t *testing.T) {
	for _, code := range []int{100, 199, 200, 203, 204, 205, 303, 304, 305, 404, 599} {
		for minor := range 2 {
			for _, l := range rows() {
				wantAnswer(t, answer(code, minor), l, "HEAD", kind(api.BNone), api.OK)
			}
		}
	}
	for _, method := range []string{"", "GET", "POST", "PUT", "head", "Head", "HEAd", "hEAD", " HEAD", "HEAD ", "HEADS", "HEA", "HEAD\x00", "G T", "\xff", "*", fill(21), fill(long)} {
		for minor := range 2 {
			for _, l := range rows() {
				want, bad := Answer(answer(200, minor), l, "GET")
				wantAnswer(t, answer(200, minor), l, method, want, bad)
			}
			s := answer(200, minor)
			wantAnswer(t, s, nil, method, kind(api.BClose), api.OK)
			wantAnswer(t, s, one(length, "5"), method, sized(5), api.OK)
			wantAnswer(t, s, one(length, "x"), method, api.Body{}, api.ErrFrame)
			wantAnswer(t, answer(204, minor), one(length, "x"), method, kind(api.BNone), api.OK)
		}
	}
}

// P9.1: a request's own method does not matter, `HEAD` neither, and where it goes does not.
func TestRequestMethods(t *testing.T) {
	for _, method := range []string{"GET", "HEAD", "head", "POST", "X", fill(20)} {
		for _, target := range []string{"/", "*", "http://h/x?y", "/" + fill(499)} {
			for minor := range 2 {
				s := api.Start{Method: method, Target: target, Minor: minor}
				wantRequest(t, s, nil, kind(api.BNone), api.OK)
				wantRequest(t, s, one(length, "5"), sized(5), api.OK)
				wantRequest(t, s, one(length, "x"), api.Body{}, api.ErrFrame)
				wantRequest(t, s, one(length, "20001"), api.Body{}, api.ErrLong)
			}
			s := api.Start{Method: method, Target: target, Minor: 1}
			wantRequest(t, s, one(coding, "chunked"), kind(api.BChunk), api.OK)
		}
	}
}

var decimal = regexp.MustCompile(`^[0-9]+$`)

// modelLengths reads numbers of any size, so that no limit is met on the way.
func modelLengths(values []string) (api.Body, api.Errno) {
	limit := new(big.Int).Lsh(big.NewInt(1), 40)
	different := map[string]bool{}
	for _, value := range values {
		if !decimal.MatchString(value) {
			return api.Body{}, api.ErrFrame
		}
		n, _ := new(big.Int).SetString(value, 10)
		if n.Cmp(limit) > 0 {
			different["long"] = true
		} else {
			different[n.String()] = true
		}
	}
	if len(different) > 1 {
		return api.Body{}, api.ErrFrame
	}
	for n := range different {
		if size, err := strconv.ParseInt(n, 10, 64); err == nil && size <= 20000 {
			return api.Body{Kind: 1, Size: int(size)}, api.OK
		}
	}
	return api.Body{}, api.ErrLong
}

// model is what fields say, by the document's words; silent is where that is nothing.
func model(minor int, l []api.Field, silent int) (api.Body, api.Errno) {
	var codings, lengths []string
	for _, f := range l {
		switch strings.ToLower(f.Name) {
		case "transfer-encoding":
			codings = append(codings, f.Value)
		case "content-length":
			lengths = append(lengths, f.Value)
		}
	}
	switch {
	case len(codings) == 1 && strings.EqualFold(codings[0], "chunked") && len(lengths) == 0 && minor == 1:
		return api.Body{Kind: 2}, api.OK
	case len(codings) > 0:
		return api.Body{}, api.ErrFrame
	case len(lengths) > 0:
		return modelLengths(lengths)
	}
	return api.Body{Kind: silent}, api.OK
}

// parts are fields that rows are made of.
func parts() []api.Field {
	return slices.Concat(
		named(length, "0", "5", "05", "20000", "20001", most, tooLong, "18446744073709551621", "", "-5", "5, 5"),
		named("content-length", "5", "20001"),
		named(coding, "chunked", "CHUNKED", "gzip", "", "gzip, chunked"),
		named("TRANSFER-ENCODING", "chunked"),
		named("X", "chunked", "5"),
	)
}

// rowsOf hands on all rows of at most so many of those fields.
func rowsOf(fields []api.Field, count int, do func(l []api.Field)) {
	var grow func(l []api.Field)
	grow = func(l []api.Field) {
		do(l)
		if len(l) == count {
			return
		}
		for _, f := range fields {
			grow(append(slices.Clone(l), f))
		}
	}
	grow(nil)
}

// P9.1: all rows of at most three of the fields say what the model says.
func TestAllShortRows(t *testing.T) {
	rowsOf(parts(), 3, func(l []api.Field) {
		for minor := range 2 {
			want, bad := model(minor, l, 0)
			wantRequest(t, ask(minor), l, want, bad)
			want, bad = model(minor, l, 3)
			wantAnswer(t, answer(200, minor), l, "GET", want, bad)
			wantAnswer(t, answer(404, minor), l, "head", want, bad)
			wantAnswer(t, answer(304, minor), l, "GET", api.Body{}, api.OK)
			wantAnswer(t, answer(200, minor), l, "HEAD", api.Body{}, api.OK)
		}
	})
}

// P9.2: ErrArg, if the row may not be, whatever is to be said.
func TestWithWrongRows(t *testing.T) {
	for _, l := range wrongRows() {
		for of := -1; of <= 4; of++ {
			for _, size := range []int{-1, 0, 5, 20000, 20001} {
				wantWithBad(t, l, api.Body{Kind: of, Size: size}, api.ErrArg)
			}
		}
	}
}

// P9.2: ErrArg, if Size is below 0 or above 20000, of each Kind, or Kind is not 0 to 3; ahead of ErrMany.
func TestWithWrongBodies(t *testing.T) {
	for _, l := range append(rows(), others(39)) {
		for _, of := range []int{-1, 4, 5, -2, 256, math.MaxInt, math.MinInt} {
			for _, size := range []int{-1, 0, 5, 20000, 20001, math.MaxInt, math.MinInt} {
				wantWithBad(t, l, api.Body{Kind: of, Size: size}, api.ErrArg)
			}
		}
		for of := range 4 {
			for _, size := range []int{-1, -20000, 20001, 20002, 65536, 1 << 32, math.MaxInt, math.MinInt} {
				wantWithBad(t, l, api.Body{Kind: of, Size: size}, api.ErrArg)
			}
		}
	}
}

// modelWith is the row without what said so, with what says so now behind.
func modelWith(l []api.Field, b api.Body) []api.Field {
	var made []api.Field
	for _, f := range l {
		if name := strings.ToLower(f.Name); name != "content-length" && name != "transfer-encoding" {
			made = append(made, f)
		}
	}
	switch b.Kind {
	case 1:
		made = append(made, api.Field{Name: "Content-Length", Value: strconv.Itoa(b.Size)})
	case 2:
		made = append(made, api.Field{Name: "Transfer-Encoding", Value: "chunked"})
	}
	return made
}

// P9.2: what is put behind, of each Kind; a Size that may be matters of BSize alone.
func TestWithOrdinary(t *testing.T) {
	a := api.Field{Name: "A", Value: "1"}
	for _, size := range []int{0, 1, 5, 19999, 20000} {
		for _, l := range [][]api.Field{{a}, {a, {Name: "content-length", Value: "x"}}, {{Name: "TRANSFER-encoding", Value: ""}, a}, {{Name: length, Value: "7"}, a, {Name: coding, Value: "gzip"}, {Name: length, Value: "8"}}} {
			wantWith(t, l, api.Body{Kind: api.BNone, Size: size}, []api.Field{a})
			wantWith(t, l, api.Body{Kind: api.BSize, Size: size}, []api.Field{a, {Name: "Content-Length", Value: strconv.Itoa(size)}})
			wantWith(t, l, api.Body{Kind: api.BChunk, Size: size}, []api.Field{a, {Name: "Transfer-Encoding", Value: "chunked"}})
			wantWith(t, l, api.Body{Kind: api.BClose, Size: size}, []api.Field{a})
		}
		wantWith(t, nil, sized(size), one("Content-Length", strconv.Itoa(size)))
		wantWith(t, []api.Field{}, api.Body{Kind: api.BChunk, Size: size}, one("Transfer-Encoding", "chunked"))
		wantWith(t, nil, api.Body{Size: size}, nil)
		wantWith(t, named(length, "1", "2"), api.Body{Kind: api.BClose, Size: size}, nil)
	}
}

// P9.2: names in small and great letters go; names that are just alike stay.
func TestWithNames(t *testing.T) {
	for _, name := range append(cases(length, 8), cases(coding, 8)...) {
		l := slices.Concat(others(1), one(name, "5"), one("Host", "h"), one(name, ""))
		wantWith(t, l, api.Body{}, []api.Field{{Name: "X-0", Value: "0"}, {Name: "Host", Value: "h"}})
		wantWith(t, l, sized(3), []api.Field{{Name: "X-0", Value: "0"}, {Name: "Host", Value: "h"}, {Name: "Content-Length", Value: "3"}})
	}
	for _, name := range []string{"Content-Lengt", "Content-Lengths", "ContentLength", "Content_Length", "Transfer-Encodings", "Content-Encoding", "TE", "Connection"} {
		wantWith(t, one(name, "chunked"), api.Body{}, one(name, "chunked"))
		wantWith(t, one(name, "5"), kind(api.BChunk), append(one(name, "5"), api.Field{Name: "Transfer-Encoding", Value: "chunked"}))
	}
}

// P9.2: ErrMany, if 40 others stand there and one is to be put behind; what goes makes room.
func TestWithFullRows(t *testing.T) {
	for count := 36; count <= 40; count++ {
		for gone := 0; count+gone <= 40; gone++ {
			for _, name := range []string{length, coding, "content-length", "TRANSFER-ENCODING"} {
				said := named(name, slices.Repeat([]string{"5"}, gone)...)
				for _, l := range [][]api.Field{append(others(count), said...), append(said, others(count)...)} {
					wantWith(t, l, kind(api.BNone), others(count))
					wantWith(t, l, kind(api.BClose), others(count))
					for _, b := range []api.Body{sized(0), sized(20000), kind(api.BChunk)} {
						if count == 40 {
							wantWithBad(t, l, b, api.ErrMany)
						} else {
							wantWith(t, l, b, modelWith(l, b))
						}
					}
				}
			}
		}
	}
	all := named(length, slices.Repeat([]string{"5"}, 40)...)
	wantWith(t, all, sized(6), one(length, "6"))
	wantWith(t, all, kind(api.BChunk), one(coding, "chunked"))
	wantWith(t, all, api.Body{}, nil)
}

// P9.2: all rows of at most four of some fields, with each Kind.
func TestWithAllShortRows(t *testing.T) {
	fields := []api.Field{{Name: length, Value: "5"}, {Name: "content-length", Value: ""}, {Name: coding, Value: "chunked"}, {Name: "TRANSFER-ENCODING", Value: "gzip"}, {Name: "A", Value: "5"}, {Name: "b", Value: "chunked"}, {Name: "a", Value: ""}}
	rowsOf(fields, 4, func(l []api.Field) {
		for _, b := range []api.Body{{}, {Size: 5}, sized(0), sized(12345), kind(api.BChunk), kind(api.BClose)} {
			wantWith(t, l, b, modelWith(l, b))
		}
	})
}

// P9.3: fields that are made to say so say so, of each size; others stay, in order.
func TestMadeToSay(t *testing.T) {
	made := func(l []api.Field, b api.Body) []api.Field {
		t.Helper()
		got, bad := With(l, b)
		if bad != api.OK || !slices.Equal(got[:min(len(got), len(modelWith(l, api.Body{})))], modelWith(l, api.Body{})) {
			t.Errorf("With(%s, %v) = %s, %d", told(l), b, told(got), bad)
		}
		return got
	}
	for size := range 20001 {
		wantSay(t, size%2, made(nil, sized(size)), sized(size), api.OK)
	}
	rowsOf(parts(), 2, func(l []api.Field) {
		for _, size := range []int{0, 5, 20000} {
			wantEither(t, made(l, sized(size)), sized(size), api.OK)
			wantChunks(t, made(l, api.Body{Kind: api.BChunk, Size: size}))
			wantNothing(t, made(l, api.Body{Kind: api.BNone, Size: size}))
			wantNothing(t, made(l, api.Body{Kind: api.BClose, Size: size}))
			again := made(made(l, kind(api.BChunk)), sized(size))
			wantWith(t, again, sized(size), made(l, sized(size)))
		}
	})
	full := append(others(39), one(length, "x")...)
	wantEither(t, made(full, sized(20000)), sized(20000), api.OK)
	wantChunks(t, made(full, kind(api.BChunk)))
	wantNothing(t, made(others(40), api.Body{}))
}

// R1 and R4: no row that is handed in is changed, nor what lies behind it, not even by what is done to an answer; the same call answers the same.
func TestRowsStay(t *testing.T) {
	rowsOf(parts(), 2, func(l []api.Field) {
		all := slices.Concat(others(2), l, others(3), named(length, "77", "78"))
		before := slices.Clone(all)
		row := all[:len(all)-2]
		for _, b := range []api.Body{{}, sized(9), kind(api.BChunk), kind(api.BClose), {Kind: 4}} {
			first, bad := With(row, b)
			second, badAgain := With(row, b)
			if !slices.Equal(first, second) || bad != badAgain {
				t.Errorf("With(%s, %v) = %s, %d, then %s, %d", told(row), b, told(first), bad, told(second), badAgain)
			}
			clear(first[:cap(first)])
			if bad == api.OK && !slices.Equal(second, modelWith(row, b)) {
				t.Errorf("two answers of With(%s, %v) share their row", told(row), b)
			}
			clear(second[:cap(second)])
		}
		for minor := range 2 {
			Request(ask(minor), row)
			Answer(answer(200, minor), row, "GET")
			Answer(answer(204, minor), row, "HEAD")
		}
		if !slices.Equal(all, before) {
			t.Fatalf("calls changed %s to %s", told(before), told(all))
		}
	})
}

// P1: calls end and do not panic, at arguments that are far from any that may be.
func TestAnything(t *testing.T) {
	texts := []string{"", "\x00", "\xff\xfe", length, coding, "chunked", "5", fill(long / 8), strings.Repeat("\n", 3000)}
	numbers := []int{math.MinInt, -1, 0, 1, 2, 3, 200, 204, 20000, math.MaxInt}
	for _, name := range texts {
		for _, value := range texts {
			l := one(name, value)
			for _, n := range numbers {
				With(l, api.Body{Kind: n, Size: n})
				With(l, api.Body{Kind: 1, Size: n})
				for _, s := range []api.Start{{Method: name, Target: value, Minor: n}, {Code: n, Reason: value, Minor: 1}, {Method: name, Code: n, Minor: n}} {
					Request(s, l)
					Answer(s, l, value)
				}
			}
		}
	}
}
