package head

import (
	"regexp"
	"slices"
	"strconv"
	"strings"
	"testing"

	"intarsia/api"
)

// The bytes are written out, so that one too many or too few is found.
const (
	tokenBytes   = "abcdefghijklmnopqrstuvwxyzABCDEFGHIJKLMNOPQRSTUVWXYZ0123456789!#$%&'*+-.^_|~\x60"
	controlBytes = "\x00\x01\x02\x03\x04\x05\x06\x07\x08\x0a\x0b\x0c\x0d\x0e\x0f\x10\x11\x12\x13\x14\x15\x16\x17\x18\x19\x1a\x1b\x1c\x1d\x1e\x1f\x7f"
)

// long is far beyond any limit.
const long = 1 << 20

// row makes fields of names, each with its value behind it.
func row(texts ...string) []api.Field {
	var l []api.Field
	for i := 0; i < len(texts); i += 2 {
		l = append(l, api.Field{Name: texts[i], Value: texts[i+1]})
	}
	return l
}

// rowOf makes a row of so many fields, n0, n1 and so on, each with its number as its value.
func rowOf(count int) []api.Field {
	var l []api.Field
	for i := range count {
		l = append(l, api.Field{Name: "n" + strconv.Itoa(i), Value: strconv.Itoa(i)})
	}
	return l
}

// linesOf are the lines of rowOf, each ended so.
func linesOf(count int, end string) string {
	var s strings.Builder
	for i := range count {
		s.WriteString("n" + strconv.Itoa(i) + ": " + strconv.Itoa(i) + end)
	}
	return s.String()
}

func fill(count int) string { return strings.Repeat("x", count) }

// rowWritten is a row of four fields that may be, and has so many bytes, written: 3010 to 4010.
func rowWritten(size int) []api.Field {
	l := row("a", fill(1000), "b", fill(1000), "c", fill(990))
	rest := size - 2990 - 4*len("a: \r\n")
	return append(l, api.Field{Name: "d", Value: fill(rest)})
}

func wantPrint(t *testing.T, l []api.Field, want string, bad api.Errno) {
	t.Helper()
	if got, gotBad := Print(l); got != want || gotBad != bad {
		t.Errorf("Print(%.30q) = %.60q of %d bytes, %d; want %.60q of %d bytes, %d", l, got, len(got), gotBad, want, len(want), bad)
	}
}

func wantParse(t *testing.T, s string, want []api.Field, bad api.Errno) {
	t.Helper()
	if got, gotBad := Parse(s); gotBad != bad || !slices.Equal(got, want) {
		t.Errorf("Parse(%.60q), of %d bytes, = %.30q, %d; want %.30q, %d", s, len(s), got, gotBad, want, bad)
	}
}

func wantNoHead(t *testing.T, s string) {
	t.Helper()
	wantParse(t, s, nil, api.ErrHead)
}

func wantEnd(t *testing.T, s string, want int, bad api.Errno) {
	t.Helper()
	if got, gotBad := End(s); got != want || gotBad != bad {
		t.Errorf("End(%.60q), of %d bytes, = %d, %d; want %d, %d", s, len(s), got, gotBad, want, bad)
	}
}

// rights are rows that may be, each as it is written.
func rights() map[string][]api.Field {
	return map[string][]api.Field{
		"":                                      nil,
		"a: 1\r\n":                              row("a", "1"),
		"a: \r\n":                               row("a", ""),
		"a: 1\r\nB: 2\r\n":                      row("a", "1", "B", "2"),
		"B: 2\r\na: 1\r\n":                      row("B", "2", "a", "1"),
		"a: 1\r\nA: 1\r\na: 1\r\n":              row("a", "1", "A", "1", "a", "1"),
		"a: \r\nb: \r\n":                        row("a", "", "b", ""),
		"a: :\r\n":                              row("a", ":"),
		"a: b: c\r\n":                           row("a", "b: c"),
		"a: ::1:\r\n":                           row("a", "::1:"),
		"a: b c\r\n":                            row("a", "b c"),
		"a: b\tc \t d\r\n":                      row("a", "b\tc \t d"),
		"a: \"q, \\\" r\"\r\n":                  row("a", "\"q, \\\" r\""),
		"a: \x80\xff\xc3\r\n":                   row("a", "\x80\xff\xc3"),
		"a: é\u00a0\u2003\u2028\r\n":            row("a", "é\u00a0\u2003\u2028"),
		tokenBytes + ": " + tokenBytes + "\r\n": row(tokenBytes, tokenBytes),
		"Content-Length: 12\r\nHost: h:80\r\n":  row("Content-Length", "12", "Host", "h:80"),
		"a: " + fill(999) + "\r\n":              row("a", fill(999)),
		"a: " + fill(1000) + "\r\n":             row("a", fill(1000)),
		fill(1001) + ": 1\r\n":                  row(fill(1001), "1"),
		fill(3996) + ": \r\n":                   row(fill(3996), ""),
		linesOf(39, "\r\n"):                     rowOf(39),
		linesOf(40, "\r\n"):                     rowOf(40),
		strings.Repeat("a: \r\n", 40):           row(slices.Repeat([]string{"a", ""}, 40)...),
	}
}

// wrongFields may not be, some by a name, some by a value.
func wrongFields() []api.Field {
	l := row("a", " ", "a", "\t", "a", " x", "a", "x ", "a", "\tx", "a", "x\t", "a", fill(1001), "a", fill(long))
	for _, name := range []string{"", " ", "a ", " a", "a b", "a\t", "a:", ":", "a: b", "(a)", "a,b", `"a"`, "a/b", "a=b", "a\r", "a\n", "ä", "\xff"} {
		l = append(l, api.Field{Name: name, Value: "1"}, api.Field{Name: name})
	}
	for at := range len(controlBytes) {
		c := controlBytes[at : at+1]
		l = append(l, row("a", c, "a", "x"+c, "a", c+"x", "a", "x"+c+"y", c, "1", "a"+c, "1", "a"+c+"b", "1")...)
	}
	return l
}

// P7.1: a row is written, each field as a line, in order.
func TestPrintRights(t *testing.T) {
	for s, l := range rights() {
		wantPrint(t, l, s, api.OK)
	}
	wantPrint(t, []api.Field{}, "", api.OK)
}

// P7.1: ErrArg, if the row may not be, by a name or by a value, wherever in it.
func TestPrintWrongFields(t *testing.T) {
	for _, f := range wrongFields() {
		wantPrint(t, []api.Field{f}, "", api.ErrArg)
		for _, at := range []int{0, 1, 20, 39} {
			wantPrint(t, slices.Insert(rowOf(39), at, f), "", api.ErrArg)
		}
	}
}

// P7.1: each byte, as a name, within one, and within a value.
func TestPrintEachByte(t *testing.T) {
	for n := range 256 {
		c := string([]byte{byte(n)})
		for _, name := range []string{c, c + "a", "a" + c, "a" + c + "b"} {
			if strings.Contains(tokenBytes, c) {
				wantPrint(t, row(name, "1"), name+": 1\r\n", api.OK)
			} else {
				wantPrint(t, row(name, "1"), "", api.ErrArg)
			}
		}
		if strings.Contains(controlBytes, c) {
			wantPrint(t, row("a", "x"+c+"y"), "", api.ErrArg)
		} else {
			wantPrint(t, row("a", "x"+c+"y"), "a: x"+c+"y\r\n", api.OK)
		}
	}
}

// P7.1: a row has at most 40 fields.
func TestPrintNumber(t *testing.T) {
	wantPrint(t, rowOf(40), linesOf(40, "\r\n"), api.OK)
	wantPrint(t, rowOf(41), "", api.ErrArg)
	wantPrint(t, rowOf(1000), "", api.ErrArg)
}

// P7.1: ErrLong, if it has more than 4000 bytes, written.
func TestPrintLong(t *testing.T) {
	for _, size := range []int{3010, 3998, 3999, 4000} {
		if s, bad := Print(rowWritten(size)); len(s) != size || bad != api.OK {
			t.Errorf("Print of a row of %d bytes: %d bytes, %d", size, len(s), bad)
		}
	}
	for _, size := range []int{4001, 4002, 4003, 4004, 4005, 4006, 4010} {
		wantPrint(t, rowWritten(size), "", api.ErrLong)
	}
	wantPrint(t, row(fill(3995), "1"), fill(3995)+": 1\r\n", api.OK)
	wantPrint(t, row(fill(3996), "1"), "", api.ErrLong)
	wantPrint(t, row(fill(3997), ""), "", api.ErrLong)
	wantPrint(t, row(fill(long), ""), "", api.ErrLong)
	wantPrint(t, row(slices.Repeat([]string{"a", fill(95)}, 40)...), strings.Repeat("a: "+fill(95)+"\r\n", 40), api.OK)
	wantPrint(t, append(row(slices.Repeat([]string{"a", fill(95)}, 39)...), row("a", fill(96))...), "", api.ErrLong)
	wantPrint(t, row(slices.Repeat([]string{"a", fill(1000)}, 40)...), "", api.ErrLong)
}

// P7.1, P1: of ErrArg and ErrLong, ErrArg is the answer.
func TestPrintWrongAndLong(t *testing.T) {
	wantPrint(t, append(rowWritten(4001), row("a b", "")...), "", api.ErrArg)
	wantPrint(t, append(rowWritten(4001), row("a", " ")...), "", api.ErrArg)
	wantPrint(t, row("a", fill(4001)), "", api.ErrArg)
	wantPrint(t, row(slices.Repeat([]string{"a", fill(1000)}, 41)...), "", api.ErrArg)
}

// P7.1, R4: the row that was handed in is left as it is, and so is the memory behind it.
func TestPrintLeavesItsRow(t *testing.T) {
	rows := [][]api.Field{rowOf(41), rowWritten(4000), rowWritten(4001)}
	for _, l := range rights() {
		rows = append(rows, l)
	}
	for _, f := range wrongFields() {
		rows = append(rows, append(rowOf(2), f))
	}
	for _, l := range rows {
		all := slices.Concat(l, row("guard", "1", "guard", "2"))
		was := slices.Clone(all)
		Print(all[:len(l)])
		if !slices.Equal(all, was) {
			t.Errorf("Print changed %.30q to %.30q", was, all)
		}
	}
}

// P7.2: the chapter's example, and others that are written more freely than Print does.
func TestParseRights(t *testing.T) {
	for s, want := range map[string][]api.Field{
		"a: 1\r\nb:2\n":              row("a", "1", "b", "2"),
		"a:\n":                       row("a", ""),
		"a:\r\n":                     row("a", ""),
		"a: \n":                      row("a", ""),
		"a: \t \t\r\n":               row("a", ""),
		"a:1\n":                      row("a", "1"),
		"a:1\r\n":                    row("a", "1"),
		"a:  1\n":                    row("a", "1"),
		"a:\t1\n":                    row("a", "1"),
		"a: \t 1 \t \n":              row("a", "1"),
		"a: \t 1 \t \r\n":            row("a", "1"),
		"a: 1\t\r\n":                 row("a", "1"),
		"a:x y\n":                    row("a", "x y"),
		"a: x \t y \n":               row("a", "x \t y"),
		"a::\n":                      row("a", ":"),
		"a: :\n":                     row("a", ":"),
		"a:::\r\n":                   row("a", "::"),
		"a:b:c\n":                    row("a", "b:c"),
		"a: b : c :\n":               row("a", "b : c :"),
		"a:1\nA:1\na:2\n":            row("a", "1", "A", "1", "a", "2"),
		"b:\na:\n":                   row("b", "", "a", ""),
		"a:1\nb:2\r\nc:3\n":          row("a", "1", "b", "2", "c", "3"),
		"a:" + fill(1000) + "\n":     row("a", fill(1000)),
		"a: " + fill(1000) + " \r\n": row("a", fill(1000)),
		"a:" + strings.Repeat(" ", 1500) + "x" + strings.Repeat("\t", 1500) + "\n": row("a", "x"),
		"a:" + strings.Repeat(" ", 3997) + "\n":                                    row("a", ""),
		fill(3998) + ":\n":                                                         row(fill(3998), ""),
	} {
		wantParse(t, s, want, api.OK)
	}
}

// P7.2: what Print writes, with its lines ended either way.
func TestParseWritten(t *testing.T) {
	for s, l := range rights() {
		wantParse(t, s, l, api.OK)
		wantParse(t, strings.ReplaceAll(s, "\r\n", "\n"), l, api.OK)
	}
}

// P7.2: ErrHead, if a line is no field; a byte 13 counts as a line's end just once, and there alone.
func TestParseWrongLines(t *testing.T) {
	wrong := []string{
		"", "a", "a 1", "1", "a=1", "\t", " ",
		":", ": 1", ":1", "::", " : 1", "\t: 1", ": a: 1",
		" a: 1", "\ta: 1", "a : 1", "a\t: 1", " a : 1", "a b: 1", "a b", "a,b: 1", "(a): 1", `"a": 1`, "ä: 1", "\xff: 1",
		"\ra: 1", "a\r: 1", "a:\r1", "a: \r1", "a: \r 1", "a: 1\r2", "a: 1\r ", "a: 1\r\t", "a:\r ", "\r:", "a\r",
		"a: 1\r\r", "a:\r\r", "a: 1\r\r\r", "\r\r", "\r", "\r\r\r",
		"a: \x00", "a: x\x1fy", "a: \x7f", "a: \x0b1", "a: 1\x0c",
		"a: " + fill(1001), "a: " + fill(3000), "a: " + fill(1000) + "\t" + fill(1),
	}
	for _, line := range wrong {
		for _, end := range []string{"\n", "\r\n"} {
			wantNoHead(t, line+end)
			wantNoHead(t, line+end+"b: 2\r\n")
			wantNoHead(t, "b: 2\r\n"+line+end)
			wantNoHead(t, "b: 2\n"+line+end+"c: 3\n")
		}
	}
}

// P7.2: an empty line is no field, wherever it stands.
func TestParseEmptyLine(t *testing.T) {
	for _, empty := range []string{"\n", "\r\n"} {
		wantNoHead(t, empty)
		wantNoHead(t, empty+empty)
		wantNoHead(t, empty+"a: 1\r\n")
		wantNoHead(t, "a: 1\r\n"+empty)
		wantNoHead(t, "a: 1\n"+empty)
		wantNoHead(t, "a: 1\r\n"+empty+"b: 2\r\n")
		wantNoHead(t, linesOf(40, "\n")+empty)
	}
}

// P7.2: ErrHead, if there are bytes, and they do not end in a byte 10.
func TestParseNoEnd(t *testing.T) {
	wantParse(t, "", nil, api.OK)
	for _, s := range []string{
		"a", ":", " ", "\r", "a:", "a: 1", "a: 1\r", "a: 1\r\n ", "a: 1\n\r", "a: 1\nb: 2", "a: 1\nb: 2\r", "a: 1\n\n\r", "a: 1\n\x00",
		linesOf(40, "\n") + "b: 2", fill(4000),
	} {
		wantNoHead(t, s)
	}
	for s := range rights() {
		for cut := 1; cut < min(len(s), 300); cut++ {
			if s[cut-1] != '\n' {
				wantNoHead(t, s[:cut])
			}
		}
	}
}

// P7.2: ErrLong, if there are more than 4000 bytes, whatever they are.
func TestParseLong(t *testing.T) {
	for _, size := range []int{3999, 4000} {
		l := rowWritten(size)
		s := ""
		for _, f := range l {
			s += f.Name + ": " + f.Value + "\r\n"
		}
		if len(s) != size {
			t.Fatalf("a row of %d bytes has %d", size, len(s))
		}
		wantParse(t, s, l, api.OK)
	}
	for _, s := range []string{
		fill(3999) + ":\n",
		"a: 1\n" + fill(3994) + ":\n",
		strings.Repeat("a:"+fill(96)+"\r\n", 40) + "\n",
		fill(4001), strings.Repeat("\n", 4001), strings.Repeat(":", 4001), strings.Repeat("\x00", 4001), fill(4000) + "\n",
		strings.Repeat("a:\n", 1334),
		fill(long), strings.Repeat("a: 1\r\n", long), strings.Repeat("\n", long),
	} {
		wantParse(t, s, nil, api.ErrLong)
	}
	wantNoHead(t, fill(3999)+"\n")
	wantNoHead(t, strings.Repeat("\n", 4000))
	wantNoHead(t, strings.Repeat("\x00", 4000))
}

// P7.2: ErrMany, if there are 40 ahead of a line; but ErrHead, if that one is no field.
func TestParseMany(t *testing.T) {
	for _, end := range []string{"\n", "\r\n"} {
		wantParse(t, linesOf(39, end), rowOf(39), api.OK)
		wantParse(t, linesOf(40, end), rowOf(40), api.OK)
		wantParse(t, linesOf(41, end), nil, api.ErrMany)
		wantParse(t, linesOf(200, end), nil, api.ErrMany)
		wantParse(t, strings.Repeat("a:"+end, 41), nil, api.ErrMany)
		for _, wrong := range []string{"a", "", ": 1", "a : 1", " a: 1", "a: \x00", "a: " + fill(1001), "a: 1\r\r"} {
			wantNoHead(t, wrong+end+linesOf(40, end))
			wantNoHead(t, linesOf(39, end)+wrong+end)
			wantNoHead(t, linesOf(40, end)+wrong+end)
			wantNoHead(t, linesOf(40, end)+wrong+end+"a: 1"+end)
			// The 41st line is asked ahead of the 42nd.
			wantParse(t, linesOf(41, end)+wrong+end, nil, api.ErrMany)
		}
		// That the last line has no end is asked ahead of each line.
		wantNoHead(t, linesOf(41, end)+"a")
	}
	wantParse(t, strings.Repeat("a:\n", 1333)+"\n", nil, api.ErrMany)
}

// P7.2: each byte, as a name, within one, ahead of it and behind it.
func TestParseEachByteOfNames(t *testing.T) {
	for n := range 256 {
		c := string([]byte{byte(n)})
		for _, name := range []string{c, c + "a", "a" + c, "a" + c + "b"} {
			s := name + ": 1\n"
			switch {
			case strings.Contains(tokenBytes, c):
				wantParse(t, s, row(name, "1"), api.OK)
			case c == ":" && name[0] != ':':
				_, value, _ := strings.Cut(name, ":")
				wantParse(t, s, row("a", value+": 1"), api.OK)
			default:
				wantNoHead(t, s)
			}
		}
	}
}

// P7.2: each byte, as a value, within one, ahead of it and behind it.
func TestParseEachByteOfValues(t *testing.T) {
	for n := range 256 {
		c := string([]byte{byte(n)})
		for _, value := range []string{c, c + "x", "x" + c, "x" + c + "y", " " + c + " ", "\t" + c + "\t"} {
			s := "a:" + value + "\n"
			switch {
			case c == "\r" && strings.HasSuffix(value, "\r"):
				wantParse(t, s, row("a", strings.TrimSuffix(value, "\r")), api.OK)
			case strings.Contains(controlBytes, c):
				wantNoHead(t, s)
			default:
				wantParse(t, s, row("a", strings.Trim(value, " \t")), api.OK)
			}
		}
	}
}

// P7.2: each byte, as a whole line, behind a name without a value, and behind the last line.
func TestParseEachByteOfLines(t *testing.T) {
	for n := range 256 {
		c := string([]byte{byte(n)})
		for _, end := range []string{"\n", "\r\n"} {
			wantNoHead(t, c+end)
			wantNoHead(t, "a: 1"+end+c)
			wantNoHead(t, "a: 1"+end+c+end)
			if c == ":" {
				wantParse(t, "a"+c+end, row("a", ""), api.OK)
			} else {
				wantNoHead(t, "a"+c+end)
			}
		}
	}
}

// eachText hands on all texts of up to so many of the parts.
func eachText(parts []string, most int, do func(s string)) {
	do("")
	if most == 0 {
		return
	}
	for _, p := range parts {
		eachText(parts, most-1, func(s string) { do(p + s) })
	}
}

// told reads a head by a pattern of a whole line: what Parse must answer, as far as no limit is met.
func told(s string) ([]api.Field, api.Errno) {
	var l []api.Field
	for s != "" {
		m := wholeLine.FindStringSubmatch(s)
		if m == nil {
			return nil, api.ErrHead
		}
		l = append(l, api.Field{Name: m[1], Value: m[2]})
		s = s[len(m[0]):]
	}
	return l, api.OK
}

var wholeLine = regexp.MustCompile(`^([!#$%&'*+\-.^_|~\x60a-zA-Z0-9]+):[ \t]*((?:[^\x00-\x20\x7f](?:[^\x00-\x08\x0a-\x1f\x7f]*[^\x00-\x20\x7f])?)?)[ \t]*\r?\n`)

// P7.2: all texts of up to six of these bytes, and of up to five of these parts, against a pattern.
func TestParseAllShort(t *testing.T) {
	eachText([]string{"a", ":", " ", "\t", "\r", "\n", "\x00"}, 6, func(s string) {
		want, bad := told(s)
		wantParse(t, s, want, bad)
	})
	eachText([]string{"a", ": ", "\r", "\n", "a:1\n", "b: \r\n", "\xff", "/"}, 5, func(s string) {
		want, bad := told(s)
		wantParse(t, s, want, bad)
	})
}

// P7.3: how many bytes the first empty line's end stands behind, and no other's.
func TestEndRights(t *testing.T) {
	for s, want := range map[string]int{
		"\n":                                1,
		"\r\n":                              2,
		"\n\n":                              1,
		"\r\n\r\n":                          2,
		"\n\r\n":                            1,
		"\r\n\n":                            2,
		"\nx":                               1,
		"\r\nx":                             2,
		"\n\r\r\n":                          1,
		"a\n\n":                             3,
		"a\r\n\r\n":                         5,
		"a\n\r\n":                           4,
		"a\r\n\n":                           4,
		"a\r\r\n\r\n":                       6,
		"\r\r\n\r\n":                        5,
		"\r\r\n\n":                          4,
		" \n\n":                             3,
		"\r \n\n":                           4,
		" \r\n\r\n":                         5,
		"\ra\n\n":                           4,
		"a\n\nb\n\n":                        3,
		"a\n\r\n\r\n":                       4,
		"a\nb\n\n":                          5,
		"\x00\n\n":                          3,
		"\xff\n\r\nc":                       4,
		"GET / HTTP/1.1\r\n\r\n":            18,
		"a: 1\r\n\r\nbody\r\n\r\n":          8,
		"no field\n: \n\n":                  13,
		linesOf(40, "\n") + "\n":            len(linesOf(40, "\n")) + 1,
		linesOf(41, "\r\n") + "\r\n":        len(linesOf(41, "\r\n")) + 2,
		strings.Repeat("\n", long):          1,
		strings.Repeat("\r\n", long):        2,
		"a\n\n" + strings.Repeat("x", long): 3,
	} {
		wantEnd(t, s, want, api.OK)
	}
}

// P7.3: ErrShort, if there is no empty line and there are at most 4000 bytes.
func TestEndShort(t *testing.T) {
	for _, s := range []string{
		"", "a", "\r", "\r\r", "\r\r\n", "\r\r\r\n", "a\n", "a\r\n", "a\r\n\r", "a\n\r", "a\nb", "a\nb\n", "a\r\nb\r\n", "a\n\r\r\n", "\r\r\n\r\r\n",
		" \n", "\t\n", " \r\n", "\r \n", "a\n \n", "a\n\ra\n", "\x00\n", "a\r\r", "\\n\\n", "\x0b\x0b", "\u2028\u2028", "\x85\x85",
		fill(3998) + "\n", fill(3999), fill(3999) + "\n", fill(4000), strings.Repeat("\r", 4000), strings.Repeat("a\n", 2000), fill(3999) + "\r", fill(3998) + "\n\r",
	} {
		wantEnd(t, s, 0, api.ErrShort)
	}
}

// P7.3: ErrLong, if there is no empty line, and there are more than 4000 bytes.
func TestEndLongWithoutEmptyLine(t *testing.T) {
	for _, s := range []string{
		fill(4000) + "\n", fill(4001), fill(4001) + "\n", strings.Repeat("\r", 4001), strings.Repeat("\r", 4000) + "\n", strings.Repeat("a\n", 2000) + "a", strings.Repeat("a\n", 2001), fill(3999) + "\n\r", fill(3998) + "\n\r\r\n",
		fill(long), strings.Repeat("a\n", long), strings.Repeat("\r", long),
	} {
		wantEnd(t, s, 0, api.ErrLong)
	}
}

// P7.3: the first empty line's end stands behind at most 4000 bytes, else ErrLong.
func TestEndLong(t *testing.T) {
	for _, empty := range []string{"\n", "\r\n"} {
		for _, follows := range []string{"", "x", "\n", "\r\n\r\n", fill(4001), strings.Repeat("\n", 5000)} {
			for _, size := range []int{4, 1000, 3998, 3999, 4000} {
				wantEnd(t, fill(size-len(empty)-1)+"\n"+empty+follows, size, api.OK)
			}
			for _, size := range []int{4001, 4002, 4003, 8000, long} {
				wantEnd(t, fill(size-len(empty)-1)+"\n"+empty+follows, 0, api.ErrLong)
			}
		}
	}
	for _, ahead := range []string{fill(3999) + "\n", strings.Repeat("a\n", 2000), fill(3998) + "\r\n"} {
		wantEnd(t, ahead, 0, api.ErrShort)
		wantEnd(t, ahead+"\r", 0, api.ErrLong)
		wantEnd(t, ahead+"\n", 0, api.ErrLong)
		wantEnd(t, ahead+"\r\n", 0, api.ErrLong)
	}
}

// P7.3: a line that has any byte but one 13 is not empty.
func TestEndEachByte(t *testing.T) {
	for n := range 256 {
		c := string([]byte{byte(n)})
		switch c {
		case "\n":
			wantEnd(t, "a\n"+c+"\n", 3, api.OK)
		case "\r":
			wantEnd(t, "a\n"+c+"\n", 4, api.OK)
			wantEnd(t, c+"\n", 2, api.OK)
		default:
			wantEnd(t, "a\n"+c+"\n", 0, api.ErrShort)
			wantEnd(t, c+"\n", 0, api.ErrShort)
			wantEnd(t, "\r"+c+"\n", 0, api.ErrShort)
			wantEnd(t, c+"\r\n", 0, api.ErrShort)
		}
	}
}

var firstEmpty = regexp.MustCompile(`(?:^|\n)\r?\n`)

// P7.3: all texts of up to nine of these parts, against a pattern that begins with the end of the line ahead of the empty one.
func TestEndAllShort(t *testing.T) {
	eachText([]string{"a", "\r", "\n", "b\r\n"}, 9, func(s string) {
		if m := firstEmpty.FindStringIndex(s); m != nil {
			wantEnd(t, s, m[1], api.OK)
		} else {
			wantEnd(t, s, 0, api.ErrShort)
		}
	})
}

// follows are what may stand behind a head.
func follows() []string {
	return []string{"", "x", "\n", "\r\n", "\r", "\n\n", "\r\n\r\n", "a: 1\r\n", "a: 1\r\n\r\n", "HTTP/1.1 200 OK\r\n\r\n", "\x00\xff", fill(4000), fill(4001), strings.Repeat("\n", 4001)}
}

// wantAgain has what is written of a row be read as the row, and be a head that ends behind an empty line.
func wantAgain(t *testing.T, l []api.Field) {
	t.Helper()
	s, bad := Print(l)
	if bad != api.OK {
		t.Fatalf("Print(%.30q) = %d", l, bad)
	}
	wantParse(t, s, l, api.OK)
	wantEnd(t, s, 0, api.ErrShort)
	for _, empty := range []string{"\r\n", "\n"} {
		for _, f := range follows() {
			// An end that stands behind more than 4000 bytes is too long, by P7.3.
			if size := len(s) + len(empty); size <= 4000 {
				wantEnd(t, s+empty+f, size, api.OK)
			} else {
				wantEnd(t, s+empty+f, 0, api.ErrLong)
			}
		}
	}
}

// P7.4: what is written is read again; behind it and an empty line the head ends.
func TestWrittenIsReadAgain(t *testing.T) {
	for _, l := range rights() {
		wantAgain(t, l)
	}
	for size := 3990; size <= 4000; size++ {
		wantAgain(t, rowWritten(size))
	}
}

// P7.4: all rows of up to three of these names, with each of these values.
func TestAllRowsAreReadAgain(t *testing.T) {
	var some []api.Field
	for _, name := range []string{"a", "A", "!", "x-y"} {
		for _, value := range []string{"", ":", "1", "b: 2", "\xff", "x \t y"} {
			some = append(some, api.Field{Name: name, Value: value})
		}
	}
	for _, f := range some {
		wantAgain(t, []api.Field{f})
		for _, g := range some {
			wantAgain(t, []api.Field{f, g})
			s, _ := Print([]api.Field{f, g, f})
			wantParse(t, s, []api.Field{f, g, f}, api.OK)
			wantEnd(t, s+"\r\n"+s, len(s)+2, api.OK)
		}
	}
}

// P7.4: each byte that a value may have stays as it is.
func TestEachByteIsReadAgain(t *testing.T) {
	for n := range 256 {
		c := string([]byte{byte(n)})
		if strings.Contains(tokenBytes, c) {
			wantAgain(t, row(c, c))
		}
		if !strings.Contains(controlBytes, c) {
			wantAgain(t, row("a", "x"+c+"y", "b", "z"))
		}
	}
}

// P7.4: what was read, written more freely, is written so that it is read as the same.
func TestReadIsWrittenAndReadAgain(t *testing.T) {
	eachText([]string{"a", ":", " ", "\t", "\r", "\n"}, 6, func(s string) {
		l, bad := Parse(s)
		if bad != api.OK {
			return
		}
		written, bad := Print(l)
		if bad != api.OK {
			t.Fatalf("Print(Parse(%q)) = %d", s, bad)
		}
		wantParse(t, written, l, api.OK)
	})
}
