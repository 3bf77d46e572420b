package hop

import (
	"regexp"
	"slices"
	"strconv"
	"strings"
	"testing"

	"intarsia/api"
	"intarsia/table"
)

// row makes fields of texts, two for each one: its name and its value.
func row(texts ...string) []api.Field {
	var l []api.Field
	for i := 0; i < len(texts); i += 2 {
		l = append(l, api.Field{Name: texts[i], Value: texts[i+1]})
	}
	return l
}

// rowOf has so many fields of different names, none of which is for the next one alone.
func rowOf(n int) []api.Field {
	var l []api.Field
	for i := range n {
		l = append(l, api.Field{Name: "N" + strconv.Itoa(i), Value: strconv.Itoa(i)})
	}
	return l
}

// with is the row with another field in the place of the one at at.
func with(l []api.Field, at int, name, value string) []api.Field {
	l = slices.Clone(l)
	l[at] = api.Field{Name: name, Value: value}
	return l
}

// wantRow also has the row that was handed in stay, whatever is written to the answer.
func wantRow(t *testing.T, call func(l []api.Field) ([]api.Field, api.Errno), l, want []api.Field, wantBad api.Errno) {
	t.Helper()
	handed := slices.Clone(l)
	got, bad := call(handed)
	if bad != wantBad || !slices.Equal(got, want) {
		t.Errorf("of %.300q: %.300q, %d; want %.300q, %d", l, got, bad, want, wantBad)
	}
	for i := range got {
		got[i] = api.Field{Name: "written", Value: "behind"}
	}
	if !slices.Equal(handed, l) {
		t.Errorf("of %.300q: the row that was handed in became %.300q", l, handed)
	}
}

func wantStrip(t *testing.T, l, want []api.Field) {
	t.Helper()
	wantRow(t, Strip, l, want, api.OK)
}

func wantDown(t *testing.T, l, want []api.Field) {
	t.Helper()
	wantRow(t, Down, l, want, api.OK)
}

func wantUp(t *testing.T, l []api.Field, host, device string, want []api.Field) {
	t.Helper()
	wantRow(t, upOf(host, device), l, want, api.OK)
}

func wantUpWrong(t *testing.T, l []api.Field, host, device string, want api.Errno) {
	t.Helper()
	wantRow(t, upOf(host, device), l, nil, want)
}

func upOf(host, device string) func(l []api.Field) ([]api.Field, api.Errno) {
	return func(l []api.Field) ([]api.Field, api.Errno) { return Up(l, host, device) }
}

func wantKeeps(t *testing.T, l []api.Field, minor int, want bool) {
	t.Helper()
	handed := slices.Clone(l)
	if got := Keeps(api.Start{Minor: minor}, handed); got != want {
		t.Errorf("Keeps(Minor %d, %.200q) = %t; want %t", minor, l, got, want)
	}
	if !slices.Equal(handed, l) {
		t.Errorf("Keeps(Minor %d, %.200q): the row that was handed in became %.200q", minor, l, handed)
	}
}

// joinedTexts are all texts of at most so many of the parts.
func joinedTexts(parts []string, most int) []string {
	all := []string{""}
	from := 0
	for range most {
		to := len(all)
		for _, s := range all[from:to] {
			for _, part := range parts {
				all = append(all, s+part)
			}
		}
		from = to
	}
	return all
}

// rowsOf are all rows of at most so many of the fields.
func rowsOf(fields []api.Field, most int) [][]api.Field {
	all := [][]api.Field{nil}
	from := 0
	for range most {
		to := len(all)
		for _, l := range all[from:to] {
			for _, f := range fields {
				all = append(all, append(slices.Clone(l), f))
			}
		}
		from = to
	}
	return all
}

// eight are the names that the chapter lists.
func eight() []string {
	return []string{"Connection", "Keep-Alive", "Proxy-Connection", "TE", "Trailer", "Transfer-Encoding", "Upgrade", "Content-Length"}
}

// otherLetters are the ways to write a name that differ by its letters' size.
func otherLetters(name string) []string {
	mixed := []byte(strings.ToLower(name))
	for i := 0; i < len(mixed); i += 2 {
		mixed[i] = strings.ToUpper(string(mixed[i]))[0]
	}
	swapped := []byte(strings.ToLower(name))
	for i := 1; i < len(swapped); i += 2 {
		swapped[i] = strings.ToUpper(string(swapped[i]))[0]
	}
	return []string{name, strings.ToLower(name), strings.ToUpper(name), string(mixed), string(swapped)}
}

// wrongRows are rows that may not be, each by one thing alone.
func wrongRows() [][]api.Field {
	l := [][]api.Field{rowOf(41), rowOf(1000), append(rowOf(40), api.Field{Name: "TE", Value: "x"})}
	for _, at := range []int{0, 20, 39} {
		for _, name := range []string{"", " ", "a b", " a", "a ", "a:", "a\t", "a\r", "a\x00", "a\x7f", "a,b", "(a)", `"a"`, "a/b", "a=b", "ä", "\xff", " TE", "TE ", "Connection:"} {
			l = append(l, with(rowOf(40), at, name, "v"))
		}
		for _, name := range append(eight(), "N", "Host", "Surrogate-Control", "Surrogate-Capability") {
			for _, value := range []string{" ", "\t", " x", "x ", "\tx", "x\t", "\n", "x\r\ny", "\x7f", "a\x7fb", "a\x00b", "a\x1fb", strings.Repeat("v", 1001)} {
				l = append(l, with(rowOf(40), at, name, value))
			}
		}
	}
	return l
}

// P13.1: a row that may not be, of each kind, also where what is wrong would be taken out.
func TestStripRefuses(t *testing.T) {
	for _, l := range wrongRows() {
		wantRow(t, Strip, l, nil, api.ErrArg)
	}
	wantRow(t, Strip, []api.Field{{}}, nil, api.ErrArg)
	wantRow(t, Strip, row("Connection", "x", "X", "1 "), nil, api.ErrArg)
	wantRow(t, Strip, row("Connection", "x", "X", "1\n"), nil, api.ErrArg)
	wantRow(t, Strip, append(rowOf(39), row("Connection", "N1", "X", "1")...), nil, api.ErrArg)
}

// P13.1: what may be stays as it is, with its own letters, if it is not for the next one alone.
func TestStripOthers(t *testing.T) {
	wantStrip(t, nil, nil)
	wantStrip(t, []api.Field{}, nil)
	for _, n := range []int{1, 2, 39, 40} {
		wantStrip(t, rowOf(n), rowOf(n))
	}
	for _, l := range [][]api.Field{
		row("A", "1"),
		row("b", "2", "A", "1", "a", "3", "A", "1"),
		row("Host", "h", "hOST", "", "Surrogate-Capability", `d="ESI/1.0"`, "Surrogate-Control", "no-store"),
		row("Accept", "x", "Cookie", "a=1; b=2", "Via", "1.1 x", "Content-Type", "text/html", "Date", "TE", "Age", "close"),
		row("X", "Connection: Y", "Y", "connection", "Close", "1", "close", "2"),
		row("A", strings.Repeat("v", 1000), strings.Repeat("n", 5000), "\xff\tä"),
	} {
		wantStrip(t, l, l)
	}
}

// P13.1: each of the eight names, in any letters, wherever it stands and however often.
func TestStripEight(t *testing.T) {
	for _, name := range eight() {
		for _, n := range otherLetters(name) {
			wantStrip(t, row(n, ""), nil)
			wantStrip(t, row(n, "v"), nil)
			wantStrip(t, row(n, "v", "A", "1", "B", "2"), row("A", "1", "B", "2"))
			wantStrip(t, row("A", "1", n, "v", "B", "2"), row("A", "1", "B", "2"))
			wantStrip(t, row("A", "1", "B", "2", n, "v"), row("A", "1", "B", "2"))
			wantStrip(t, row(n, "v", "A", "1", n, "", "B", "2", strings.ToUpper(n), "v"), row("A", "1", "B", "2"))
		}
	}
	var all, mixed []api.Field
	for i, name := range eight() {
		all = append(all, api.Field{Name: name, Value: "v"})
		mixed = append(mixed, api.Field{Name: name, Value: "v"}, api.Field{Name: "N" + strconv.Itoa(i), Value: strconv.Itoa(i)})
	}
	wantStrip(t, all, nil)
	wantStrip(t, mixed, rowOf(8))
}

// P13.1: names that only begin or end like one of the eight stay.
func TestStripNearNames(t *testing.T) {
	for _, name := range eight() {
		for _, n := range otherLetters(name) {
			for _, near := range []string{
				n + "x", "x" + n, n + "-", "-" + n, n + "-x", "x-" + n, n + n, n[1:], n[:len(n)-1], n + "s", n + "_", n + "`",
				strings.ReplaceAll(n+"-", "-", "_"), strings.ReplaceAll(n+"-", "-", ""), n[:len(n)-1] + "~",
			} {
				if slices.ContainsFunc(eight(), func(s string) bool { return strings.EqualFold(s, near) }) {
					continue
				}
				wantStrip(t, row("A", "1", near, "v", "TE", "2"), row("A", "1", near, "v"))
			}
		}
	}
	for _, near := range []string{"Alive", "Keep", "Proxy", "Proxy-Authenticate", "Proxy-Authorization", "Transfer", "Encoding", "Content-Encoding", "Accept-Encoding", "Content", "Length", "Content-Type", "T", "E", "TEE", "ATE", "Trailers", "Upgrade-Insecure-Requests"} {
		wantStrip(t, row(near, "v"), row(near, "v"))
	}
}

// P13.1: what one value of Connection names: the parts between commas, trimmed, in any letters.
func TestStripNamed(t *testing.T) {
	wantStrip(t, row("Connection", "x", "X", "1", "Y", "2"), row("Y", "2"))
	fields := row("x", "1", "Y", "2", "X", "3", "z", "4", "XY", "5", "x-y", "6", "!", "7")
	for _, c := range []struct{ value, names string }{
		{"", ""}, {"x", "x"}, {"X", "x"}, {"y", "y"}, {"Y", "y"}, {"Z", "z"}, {"xy", "xy"}, {"x-y", "x-y"}, {"X-y", "x-y"}, {"!", "!"},
		{"x,y", "x y"}, {"y,x", "x y"}, {"x,y,z", "x y z"}, {"X,x,X", "x"}, {"x, y", "x y"}, {"x ,y", "x y"}, {"x , y", "x y"},
		{"x,\ty", "x y"}, {"x\t,y", "x y"}, {"x \t, \t y", "x y"}, {"x\t \t,\t \ty,  z", "x y z"},
		{",", ""}, {",,", ""}, {", ,", ""}, {",\t,", ""}, {",x", "x"}, {"x,", "x"}, {",x,", "x"}, {",,x,,y,,", "x y"}, {", ,x, ,y, ,", "x y"}, {",\t,\tx", "x"},
		{"q", ""}, {"q,x", "x"}, {"x,q", "x"}, {"close", ""}, {"close, x", "x"}, {"keep-alive, Y", "y"},
		{"x y", ""}, {"x\ty", ""}, {"x;y", ""}, {"x;q=1", ""}, {"x;q=1, y", "y"}, {"x=1", ""}, {"x:", ""}, {"x:1", ""}, {"x/y", ""}, {"*", ""}, {"x*", ""}, {"-x", ""}, {"x-", ""},
		{`"x"`, ""}, {`"x", y`, "y"}, {`"x`, ""}, {`"x, y`, "y"}, {`\x`, ""}, {"(x)", ""}, {"x.y", ""}, {"ä", ""}, {"x\x80", ""}, {"x\xa0,y", "y"}, {"\xc2\xa0x", ""}, {"x\xff,\xffy", ""},
	} {
		var want []api.Field
		for _, f := range fields {
			if !slices.Contains(strings.Fields(c.names), strings.ToLower(f.Name)) {
				want = append(want, f)
			}
		}
		for _, name := range otherLetters("Connection") {
			wantStrip(t, append(row(name, c.value), fields...), want)
			wantStrip(t, append(slices.Clone(fields), row(name, c.value)...), want)
			wantStrip(t, slices.Concat(fields[:3], row(name, c.value), fields[3:]), want)
		}
	}
}

// P13.1: no byte but a comma parts names, and none but 32 and 9 are taken off them.
func TestStripNamedBytes(t *testing.T) {
	for i := range 256 {
		c := string([]byte{byte(i)})
		if i < 32 && i != 9 || i == 127 {
			continue
		}
		blank := i == 32 || i == 9
		part := c == ","
		want := row("x", "1", "y", "2")
		if part {
			want = nil
		}
		wantStrip(t, row("Connection", "x"+c+"y", "x", "1", "y", "2"), want)
		if blank || part {
			want = nil
		} else {
			want = row("x", "1")
		}
		wantStrip(t, row("Connection", "a,"+c+"x,a", "x", "1"), want)
		wantStrip(t, row("Connection", "a,x"+c+",a", "x", "1"), want)
	}
}

// P13.1: letters are A to Z and a to z alone: a byte that is 32 off from another one, or a letter of another alphabet, is another name.
func TestStripLetters(t *testing.T) {
	for _, pair := range [][2]string{{"^", "~"}, {"@", "`"}, {"[", "{"}, {"_", "\x7f"}, {"\u212aeep", "keep"}, {"\u017f", "s"}, {"\xc4", "\xe4"}, {"\u0130", "i"}} {
		for _, p := range [][2]string{pair, {pair[1], pair[0]}} {
			l := row("Connection", "a,"+p[0]+",b", p[1], "1")
			if table.Right(l) {
				wantStrip(t, l, row(p[1], "1"))
			}
		}
	}
	for c := 'A'; c <= 'Z'; c++ {
		great, small := string(c), string(c+32)
		wantStrip(t, row("Connection", great, small, "1", great, "2"), nil)
		wantStrip(t, row("Connection", small, small, "1", great, "2"), nil)
	}
}

// P13.1: several fields Connection, ahead of, between and behind what they name, each with its own part of the names.
func TestStripSeveral(t *testing.T) {
	wantStrip(t, row("Connection", "x", "connection", "y", "X", "1", "Y", "2", "Z", "3"), row("Z", "3"))
	wantStrip(t, row("X", "1", "Connection", "x", "Y", "2", "CONNECTION", "y", "Z", "3"), row("Z", "3"))
	wantStrip(t, row("X", "1", "Y", "2", "Z", "3", "Connection", "y", "Connection", "x"), row("Z", "3"))
	wantStrip(t, row("X", "1", "Connection", "z,y", "Y", "2", "Connection", "", "Z", "3", "Connection", "x, q"), nil)
	wantStrip(t, row("Connection", "", "Connection", "", "X", "1"), row("X", "1"))
	wantStrip(t, row("Connection", "x", "Connection", "", "Connection", "z", "X", "1", "Y", "2", "Z", "3"), row("Y", "2"))
	wantStrip(t, row("Connection", "x", "Connection", "y", "XY", "1", "x-y", "2"), row("XY", "1", "x-y", "2"))
	wantStrip(t, row("Connection", "x,", "Connection", ",y", "X", "1", "Y", "2"), nil)
	wantStrip(t, row("Connection", `"x`, "Connection", `y"`, "X", "1", "Y", "2"), row("X", "1", "Y", "2"))
	wantStrip(t, row("Connection", `"`, "Connection", "x", "Connection", `"`, "X", "1", "Y", "2"), row("Y", "2"))
}

// P13.1: a name that is told and is not there, that is there several times, that is told twice, and fields that are told of by others alone.
func TestStripTold(t *testing.T) {
	wantStrip(t, row("Connection", "q", "X", "1"), row("X", "1"))
	wantStrip(t, row("Connection", "x", "X", "1", "A", "2", "x", "3", "B", "4", "X", "1"), row("A", "2", "B", "4"))
	wantStrip(t, row("Connection", "x, X, x", "X", "1", "A", "2"), row("A", "2"))
	wantStrip(t, row("Proxy-Connection", "x", "X", "1"), row("X", "1"))
	wantStrip(t, row("Keep-Alive", "x", "TE", "x", "Upgrade", "x", "X", "1"), row("X", "1"))
	wantStrip(t, row("Connection", "x", "X", "y", "Y", "1"), row("Y", "1"))
	wantStrip(t, row("Connections", "x", "X", "1"), row("Connections", "x", "X", "1"))
	for _, name := range append(eight(), "Host", "Surrogate-Capability", "Surrogate-Control", "close") {
		for _, n := range otherLetters(name) {
			wantStrip(t, row("Connection", n, name, "1", "A", "2"), row("A", "2"))
			wantStrip(t, row("A", "2", n, "1", "Connection", "q, "+name+", r"), row("A", "2"))
			wantStrip(t, row("A", "2", "Connection", n, "X", "1"), row("A", "2", "X", "1"))
		}
	}
}

// P13.1: rows of as many fields as may be, of which none, some or all are taken out.
func TestStripFull(t *testing.T) {
	wantStrip(t, rowOf(40), rowOf(40))
	for at := range 40 {
		l := with(rowOf(40), at, "Te", "v")
		wantStrip(t, l, slices.Delete(slices.Clone(l), at, at+1))
	}
	var all []api.Field
	for i := range 40 {
		all = append(all, api.Field{Name: eight()[i%8], Value: "x"})
	}
	wantStrip(t, all, nil)
	var told []string
	for i := range 39 {
		told = append(told, "n"+strconv.Itoa(i))
	}
	wantStrip(t, append(rowOf(39), row("Connection", strings.Join(told, ","))...), nil)
	wantStrip(t, append(rowOf(39), row("Connection", strings.Join(told[:38], " , "))...), row("N38", "38"))
	wantStrip(t, append(rowOf(39), row("Connection", strings.Join(told[1:], ","))...), row("N0", "0"))
	long := strings.Repeat("a", 998)
	wantStrip(t, row("X", "1", "Connection", long+",x", long, "2", long+"a", "3"), row(long+"a", "3"))
	wantStrip(t, row("Connection", strings.Repeat(",", 999)+"x", "X", "1", "Y", "2"), row("Y", "2"))
}

var listed = regexp.MustCompile("(?i)^(Connection|Keep-Alive|Proxy-Connection|TE|Trailer|Transfer-Encoding|Upgrade|Content-Length)$")

// modelAlone goes by patterns: whether a field of the name is for the next one alone in the row, whose names have no byte that a pattern takes for another one.
func modelAlone(l []api.Field, name string) bool {
	is := listed.MatchString(name)
	for _, f := range l {
		if !is && strings.EqualFold(f.Name, "connection") {
			is = regexp.MustCompile("(?i)(^|,)[ \t]*" + name + "[ \t]*(,|$)").MatchString(f.Value)
		}
	}
	return is
}

func modelStrip(l []api.Field) []api.Field {
	var others []api.Field
	for _, f := range l {
		if !modelAlone(l, f.Name) {
			others = append(others, f)
		}
	}
	return others
}

func choiceOfFields() []api.Field {
	return row("Connection", "x", "connection", "", "CONNECTION", "Y , host", "Connection", "surrogate-control,\tX2", "X", "1", "x", "2", "Y", "3", "x2", "4",
		"Te", "5", "Te2", "6", "upgrade", "7", "Host", "h", "HOST", "", "Surrogate-Control", "8", "surrogate-capability", `b="x"`)
}

// P13.1 and P13.5: all rows of up to three of a choice of fields, against a model by patterns; what is left has none of these any more, is the same when it is stripped again, and stays in order.
func TestStripAllRows(t *testing.T) {
	for _, l := range rowsOf(choiceOfFields(), 3) {
		wantStrip(t, l, modelStrip(l))
		once, _ := Strip(l)
		for _, f := range once {
			if modelAlone(l, f.Name) || modelAlone(once, f.Name) {
				t.Errorf("Strip(%q) = %q, which has %q", l, once, f)
			}
		}
		wantStrip(t, once, once)
	}
}

// P13.5: so too where a name is only told of by a field that is itself taken out, and where nothing is left.
func TestStripAgain(t *testing.T) {
	for _, l := range [][]api.Field{
		nil, row("Connection", "connection"), row("Connection", "connection, x", "X", "1", "Y", "x"), row("Connection", "x", "X", "connection", "Y", "2"),
		append(rowOf(39), row("Connection", "n0, n38")...), rowOf(40), row("A", "Connection", "B", "TE", "Connection", "te"),
	} {
		once, bad := Strip(l)
		if bad != api.OK || !table.Right(once) {
			t.Errorf("Strip(%.200q) = %.200q, %d; want a row that may be", l, once, bad)
		}
		wantStrip(t, once, once)
		for _, name := range eight() {
			if _, is := table.Get(once, name); is {
				t.Errorf("Strip(%.200q) = %.200q, which has %s", l, once, name)
			}
		}
	}
}

const can = `d="ESI/1.0"`

// P13.2: Strip's error comes ahead of all others.
func TestUpRefusesRows(t *testing.T) {
	for _, l := range wrongRows() {
		wantUpWrong(t, l, "h", "d", api.ErrArg)
		wantUpWrong(t, l, "h", "", api.ErrArg)
		wantUpWrong(t, l, " h", "d", api.ErrArg)
	}
	wantUpWrong(t, rowOf(41), "h", "d", api.ErrArg)
	wantUpWrong(t, rowOf(41), "h", "d d", api.ErrArg)
	wantUpWrong(t, with(rowOf(10), 3, "Host", " h"), "h", "d", api.ErrArg)
	wantUpWrong(t, with(rowOf(10), 3, "Surrogate-Capability", "x "), "h", "d", api.ErrArg)
	wantUpWrong(t, with(rowOf(10), 3, "Connection", "\x00"), "h", "", api.ErrArg)
}

// P13.2: what Strip leaves, with a Host where the first one stood, or behind.
func TestUpHost(t *testing.T) {
	wantUp(t, nil, "h", "d", row("Host", "h", "Surrogate-Capability", can))
	wantUp(t, []api.Field{}, "h:80", "d", row("Host", "h:80", "Surrogate-Capability", can))
	wantUp(t, row("A", "1", "B", "2"), "h", "d", row("A", "1", "B", "2", "Host", "h", "Surrogate-Capability", can))
	wantUp(t, row("Connection", "x", "X", "1", "Y", "2"), "h", "d", row("Y", "2", "Host", "h", "Surrogate-Capability", can))
	for _, name := range otherLetters("Host") {
		wantUp(t, row(name, "old"), "h", "d", row("Host", "h", "Surrogate-Capability", can))
		wantUp(t, row(name, "h"), "h", "d", row("Host", "h", "Surrogate-Capability", can))
		wantUp(t, row("A", "1", name, "old", "B", "2"), "h", "d", row("A", "1", "Host", "h", "B", "2", "Surrogate-Capability", can))
		wantUp(t, row("A", "1", name, "", "B", "2", "host", "old", "C", "3", "HOST", "h"), "h", "d", row("A", "1", "Host", "h", "B", "2", "C", "3", "Surrogate-Capability", can))
		wantUp(t, row("TE", "1", "A", "1", "TE", "2", name, "old", "B", "2", "TE", "3"), "h", "d", row("A", "1", "Host", "h", "B", "2", "Surrogate-Capability", can))
		wantUp(t, row("A", "1", name, "old", "B", "2", "Connection", "host"), "h", "d", row("A", "1", "B", "2", "Host", "h", "Surrogate-Capability", can))
		wantUp(t, row("Connection", "Host, x", name, "old", "Host", "older", "B", "2"), "h", "d", row("B", "2", "Host", "h", "Surrogate-Capability", can))
	}
	wantUp(t, row("Hosts", "1", "X-Host", "2"), "h", "d", row("Hosts", "1", "X-Host", "2", "Host", "h", "Surrogate-Capability", can))
}

// P13.2: a host is any value that may be: an empty one, one with blanks within, one of 1000 bytes.
func TestUpHostValues(t *testing.T) {
	long := strings.Repeat("h", 1000)
	for _, l := range [][]api.Field{nil, row("Host", "old"), row("Host", "old", "Connection", "host")} {
		for _, host := range []string{"", "h", "H.x:8080", "a b", "a\tb", `"`, ",", "ä", "\xff", long[:999], long} {
			wantUp(t, l, host, "d", row("Host", host, "Surrogate-Capability", can))
		}
		for _, host := range []string{" ", "\t", " h", "h ", "\th", "h\t", "h\n", "h\r\nX: 1", "h\x00", "\x7f", "a\x1fb", long + "h", long + " ", strings.Repeat("h", 100000)} {
			wantUpWrong(t, l, host, "d", api.ErrArg)
			wantUpWrong(t, l, host, "", api.ErrArg)
		}
	}
}

// P13.2: what the device can stands behind what the others say, all of them in the first one's place.
func TestUpCapability(t *testing.T) {
	for _, name := range otherLetters("Surrogate-Capability") {
		wantUp(t, row(name, ""), "h", "d", row("Surrogate-Capability", can, "Host", "h"))
		wantUp(t, row(name, `b="x"`), "h", "d", row("Surrogate-Capability", `b="x", `+can, "Host", "h"))
		wantUp(t, row(name, can), "h", "d", row("Surrogate-Capability", can+", "+can, "Host", "h"))
		wantUp(t, row(name, "any thing;"), "h", "d", row("Surrogate-Capability", "any thing;, "+can, "Host", "h"))
		wantUp(t, row("A", "1", name, "x", "B", "2", "Host", "o"), "h", "d", row("A", "1", "Surrogate-Capability", "x, "+can, "B", "2", "Host", "h"))
		wantUp(t, row("A", "1", name, "x", "B", "2", "Surrogate-Capability", "y", "surrogate-capability", "x"), "h", "d",
			row("A", "1", "Surrogate-Capability", "x, y, x, "+can, "B", "2", "Host", "h"))
		wantUp(t, row(name, "x", "Surrogate-Capability", ""), "h", "d", row("Surrogate-Capability", "x,, "+can, "Host", "h"))
		wantUp(t, row(name, "", "Surrogate-Capability", "x"), "h", "d", row("Surrogate-Capability", ", x, "+can, "Host", "h"))
		wantUp(t, row(name, "", "Surrogate-Capability", ""), "h", "d", row("Surrogate-Capability", ",, "+can, "Host", "h"))
		wantUp(t, row("Connection", name, "A", "1", "Surrogate-Capability", "x"), "h", "d", row("A", "1", "Host", "h", "Surrogate-Capability", can))
		wantUp(t, row("Surrogate-Capability", "x", "A", "1", "surrogate-capability", "y", "Connection", "q,"+name), "h", "d", row("A", "1", "Host", "h", "Surrogate-Capability", can))
	}
	wantUp(t, row("Surrogate-Capabilities", "x", "Surrogate-Control", "y"), "h", "d",
		row("Surrogate-Capabilities", "x", "Surrogate-Control", "y", "Host", "h", "Surrogate-Capability", can))
}

// P13.2: a device is a token; Host is set first, so that its errors are told ahead of the device's.
func TestUpDevice(t *testing.T) {
	for _, device := range []string{"d", "D", "my-device.1", "!#$%&'*+-.^_|~`", "0"} {
		wantUp(t, row("Surrogate-Capability", "x"), "h", device, row("Surrogate-Capability", "x, "+device+`="ESI/1.0"`, "Host", "h"))
	}
	full := append(rowOf(38), row("Host", "h", "Surrogate-Capability", "x")...)
	for _, device := range []string{"", " ", " d", "d ", "d d", "d;", `"d"`, "d=", "d,e", "d\n", "ä", "\xff"} {
		for _, l := range [][]api.Field{nil, row("Surrogate-Capability", "x"), row("Surrogate-Capability", strings.Repeat("x", 1000)), full, rowOf(39), with(rowOf(40), 7, "Host", "h")} {
			wantUpWrong(t, l, "h", device, api.ErrText)
			wantUpWrong(t, l, "h\n", device, api.ErrArg)
		}
		wantUpWrong(t, rowOf(40), "h", device, api.ErrMany)
		wantUpWrong(t, with(rowOf(40), 7, "Surrogate-Capability", "x"), "h", device, api.ErrMany)
		wantUpWrong(t, rowOf(40), "h ", device, api.ErrArg)
	}
}

// P13.2: what the others and the device say together has at most 1000 bytes.
func TestUpLong(t *testing.T) {
	long := strings.Repeat("v", 1000)
	own := len(can) + len(", ")
	wantUp(t, row("Surrogate-Capability", long[:1000-own]), "h", "d", row("Surrogate-Capability", long[:1000-own]+", "+can, "Host", "h"))
	wantUpWrong(t, row("Surrogate-Capability", long[:1000-own+1]), "h", "d", api.ErrArg)
	wantUpWrong(t, row("Surrogate-Capability", long), "h", "d", api.ErrArg)
	wantUpWrong(t, row("Surrogate-Capability", long[:1000-own]), "h", "dd", api.ErrArg)
	wantUp(t, row("Surrogate-Capability", long[:500], "surrogate-capability", long[:498-own]), "h", "d",
		row("Surrogate-Capability", long[:500]+", "+long[:498-own]+", "+can, "Host", "h"))
	wantUpWrong(t, row("Surrogate-Capability", long[:500], "surrogate-capability", long[:499-own]), "h", "d", api.ErrArg)
	wantUpWrong(t, row("Surrogate-Capability", long[:400], "A", "1", "Surrogate-Capability", long[:400], "Surrogate-Capability", long[:400]), "h", "d", api.ErrArg)
	device := strings.Repeat("d", 990)
	wantUp(t, nil, "h", device, row("Host", "h", "Surrogate-Capability", device+`="ESI/1.0"`))
	wantUpWrong(t, nil, "h", device+"d", api.ErrArg)
	wantUpWrong(t, nil, "h", strings.Repeat("d", 100000), api.ErrArg)
	wantUpWrong(t, row("Surrogate-Capability", "x"), "h", device, api.ErrArg)
	wantUp(t, row("Surrogate-Capability", long, "Connection", "surrogate-capability"), "h", "d", row("Host", "h", "Surrogate-Capability", can))
}

// P13.2: a row has at most 40 fields once both are set; what is stripped makes room, and several of a name become one.
func TestUpFull(t *testing.T) {
	both := row("Host", "h", "Surrogate-Capability", can)
	for n := range 39 {
		wantUp(t, rowOf(n), "h", "d", slices.Concat(rowOf(n), both))
	}
	wantUpWrong(t, rowOf(39), "h", "d", api.ErrMany)
	wantUpWrong(t, rowOf(40), "h", "d", api.ErrMany)
	wantUp(t, append(rowOf(39), row("Host", "x")...)[1:], "h", "d", append(rowOf(39)[1:], both...))
	wantUpWrong(t, append(rowOf(39), row("Host", "x")...), "h", "d", api.ErrMany)
	wantUpWrong(t, append(rowOf(39), row("Surrogate-Capability", "x")...), "h", "d", api.ErrMany)
	wantUp(t, append(rowOf(38), row("Surrogate-Capability", "x")...), "h", "d", append(rowOf(38), row("Surrogate-Capability", "x, "+can, "Host", "h")...))
	wantUp(t, append(rowOf(38), row("Host", "x", "Surrogate-Capability", "")...), "h", "d", append(rowOf(38), both...))
	wantUp(t, append(rowOf(38), row("Surrogate-Capability", "", "Host", "x")...), "h", "d", append(rowOf(38), row("Surrogate-Capability", can, "Host", "h")...))
	wantUp(t, append(rowOf(38), row("TE", "1", "Connection", "x")...), "h", "d", append(rowOf(38), both...))
	wantUp(t, append(rowOf(38), row("Connection", "x", "X", "1")...), "h", "d", append(rowOf(38), both...))
	wantUpWrong(t, append(rowOf(39), row("Connection", "x")...), "h", "d", api.ErrMany)
	wantUp(t, append(rowOf(38), row("Host", "a", "host", "b")...), "h", "d", append(rowOf(38), both...))
	wantUp(t, append(rowOf(38), row("Connection", "host", "Host", "b")...), "h", "d", append(rowOf(38), both...))
	wantUpWrong(t, append(rowOf(39), row("Host", "a")...), "h", strings.Repeat("d", 991), api.ErrArg)
	wantUpWrong(t, rowOf(39), "h", strings.Repeat("d", 990), api.ErrMany)
}

// modelUp puts the two fields in, in the place of the first one of the name that a walk from the end leaves.
func modelUp(l []api.Field) []api.Field {
	l = modelStrip(l)
	var said []string
	for _, f := range l {
		if strings.EqualFold(f.Name, "surrogate-capability") {
			said = append(said, f.Value)
		}
	}
	value := can
	if len(said) > 0 {
		value = strings.Join(said, ", ") + ", " + can
	}
	for _, set := range row("Host", "h", "Surrogate-Capability", value) {
		var rest []api.Field
		put := false
		for _, f := range l {
			switch {
			case !strings.EqualFold(f.Name, set.Name):
				rest = append(rest, f)
			case !put:
				rest = append(rest, set)
				put = true
			}
		}
		if !put {
			rest = append(rest, set)
		}
		l = rest
	}
	return l
}

// P13.2 and P13.3: all rows of up to three of a choice of fields, against models.
func TestUpAndDownAllRows(t *testing.T) {
	for _, l := range rowsOf(choiceOfFields(), 3) {
		wantUp(t, l, "h", "d", modelUp(l))
		var want []api.Field
		for _, f := range modelStrip(l) {
			if !strings.EqualFold(f.Name, "surrogate-control") {
				want = append(want, f)
			}
		}
		wantDown(t, l, want)
	}
}

// P13.3: Strip's error; else what that leaves, without Surrogate-Control, in any letters, wherever and however often it stands.
func TestDown(t *testing.T) {
	for _, l := range wrongRows() {
		wantRow(t, Down, l, nil, api.ErrArg)
	}
	wantRow(t, Down, row("Surrogate-Control", " x"), nil, api.ErrArg)
	wantRow(t, Down, append(rowOf(40), row("Surrogate-Control", "x")...), nil, api.ErrArg)
	wantDown(t, nil, nil)
	wantDown(t, []api.Field{}, nil)
	wantDown(t, rowOf(40), rowOf(40))
	wantDown(t, row("Connection", "x", "X", "1", "Y", "2"), row("Y", "2"))
	for _, name := range otherLetters("Surrogate-Control") {
		wantDown(t, row(name, ""), nil)
		wantDown(t, row(name, "no-store"), nil)
		wantDown(t, row(name, "x", "A", "1", "B", "2"), row("A", "1", "B", "2"))
		wantDown(t, row("A", "1", name, "x", "B", "2"), row("A", "1", "B", "2"))
		wantDown(t, row("A", "1", "B", "2", name, "x"), row("A", "1", "B", "2"))
		wantDown(t, row(name, "x", "A", "1", "Surrogate-Control", "", "TE", "2", "SURROGATE-CONTROL", "x", "b", "3"), row("A", "1", "b", "3"))
		wantDown(t, row("Connection", name, name, "x", "A", "1"), row("A", "1"))
		wantDown(t, with(rowOf(40), 39, name, "x"), rowOf(39))
		for _, near := range []string{name + "s", "x" + name, name[1:], name[:len(name)-1], name + "-", strings.ReplaceAll(name, "-", "_"), strings.ReplaceAll(name, "-", "")} {
			wantDown(t, row("A", "1", near, "x", "TE", "2"), row("A", "1", near, "x"))
		}
	}
	stay := row("Host", "h", "Surrogate-Capability", can, "Content-Type", "text/html", "Content-Length2", "5", "Surrogate", "1", "Control", "2")
	wantDown(t, stay, stay)
	wantDown(t, row("Transfer-Encoding", "chunked", "Content-Length", "5", "Surrogate-Control", "x", "Set-Cookie", "a=1", "set-cookie", "b=2"), row("Set-Cookie", "a=1", "set-cookie", "b=2"))
}

// wantWords asks Keeps of a row for each Minor: whether close is among the words, or else keep-alive.
func wantWords(t *testing.T, l []api.Field, closed, kept bool) {
	t.Helper()
	for _, minor := range []int{0, 1, 2, -1, 10, 11} {
		wantKeeps(t, l, minor, !closed && (kept || minor == 1))
	}
}

// P13.4: no Connection, one of no words that count, and fields of other names.
func TestKeepsByMinor(t *testing.T) {
	wantWords(t, nil, false, false)
	wantWords(t, []api.Field{}, false, false)
	wantWords(t, row("Host", "h", "A", "close"), false, false)
	for _, name := range []string{"Proxy-Connection", "Keep-Alive", "close", "keep-alive", "TE", "Connections", "onnection", "Connectio", "X-Connection", "", " Connection", "Connection ", "Connection:"} {
		for _, value := range []string{"close", "keep-alive", "close, keep-alive"} {
			wantWords(t, row(name, value), false, false)
		}
	}
	for _, value := range []string{
		"", " ", "\t", ",", ",,", "x", "x, y", "TE", "upgrade, te", "connection", "closed", "close2", "xclose", "x-close", "close-x", "clos", "lose", "close close", "close;", "close;q=1", `"close"`, "close=1",
		"keep", "alive", "keep alive", "keep,alive", "keepalive", "keep_alive", "keep-alives", "xkeep-alive", "x-keep-alive", "keep-alive-x", "keep-aliv", "eep-alive", "keep-alive=5", "keep-alive; x", `"keep-alive"`, "keep--alive",
		"close keep-alive", "keep-alive close", "close;keep-alive", "close/keep-alive", "cl ose", "c,l,o,s,e", "clo,se", "clo, se", "\u212aeep-alive", "clo\u017fe", "close\x80", "\xc2\xa0close", "close\x00", "close\n", "\nclose", "\rkeep-alive", "keep\ralive", "keep-alive\x7f", "\vclose", "close\f",
	} {
		wantWords(t, row("Connection", value), false, false)
		wantWords(t, row("A", "1", "Connection", "x, "+value+" ,y"), false, false)
	}
}

// P13.4: the two words, in any letters, alone and among others, with blanks around them, in one field and in several, in either order.
func TestKeepsByWords(t *testing.T) {
	for _, name := range otherLetters("Connection") {
		for _, c := range otherLetters("close") {
			for _, k := range otherLetters("keep-alive") {
				wantWords(t, row(name, c), true, false)
				wantWords(t, row(name, k), false, true)
				for _, around := range [][2]string{{"", ""}, {" ", ""}, {"", "\t"}, {"x,", ""}, {"", ",x"}, {",", ","}, {"x, ", " ,y"}, {",\t ", " \t,"}, {"te, upgrade ,", ",\tx"}} {
					wantWords(t, row(name, around[0]+c+around[1]), true, false)
					wantWords(t, row(name, around[0]+k+around[1]), false, true)
					wantWords(t, row(name, around[0]+c+","+k+around[1]), true, true)
					wantWords(t, row(name, around[0]+k+" , "+c+around[1]), true, true)
				}
				wantWords(t, row(name, c, "Connection", k), true, true)
				wantWords(t, row(name, k, "A", "1", "connection", c), true, true)
				wantWords(t, row("Connection", "x", name, k, "CONNECTION", ""), false, true)
				wantWords(t, row("Connection", "", name, "x, y", "CONNECTION", c), true, false)
				wantWords(t, row("Connection", k+", "+k, name, k), false, true)
			}
		}
	}
	wantWords(t, row("Connection", "clo", "Connection", "se"), false, false)
	wantWords(t, row("Connection", "keep-", "Connection", "alive"), false, false)
	wantWords(t, row("Connection", `"x`, "Connection", "close", "Connection", `y"`), true, false)
	wantWords(t, row("Connection", `"x`, "Connection", "keep-alive"), false, true)
}

// P13.4: each byte ahead of, behind and between the words.
func TestKeepsBytes(t *testing.T) {
	for i := range 256 {
		c := string([]byte{byte(i)})
		around := i == 32 || i == 9 || i == ','
		wantWords(t, row("Connection", c+"close"), around, false)
		wantWords(t, row("Connection", "close"+c), around, false)
		wantWords(t, row("Connection", c+"keep-alive"), false, around)
		wantWords(t, row("Connection", "keep-alive"+c), false, around)
		wantWords(t, row("Connection", "close"+c+"keep-alive"), c == ",", c == ",")
		wantWords(t, row("Connection", "keep"+c+"alive"), false, c == "-")
		wantWords(t, row("Connection", "clo"+c+"e"), c == "s" || c == "S", false)
	}
}

// P13.4: all values of up to five of a choice of parts, in one field and cut into two, against patterns.
func TestKeepsAllValues(t *testing.T) {
	closing := regexp.MustCompile("(?i)(^|,)[ \t]*close[ \t]*(,|$)")
	keeping := regexp.MustCompile("(?i)(^|,)[ \t]*keep-alive[ \t]*(,|$)")
	for _, s := range joinedTexts([]string{"close", "Keep-Alive", ",", " ", "\t", "x", "-"}, 5) {
		closed, kept := closing.MatchString(s), keeping.MatchString(s)
		for minor := range 2 {
			wantKeeps(t, row("Connection", s), minor, !closed && (kept || minor == 1))
		}
		if ahead, behind, is := strings.Cut(s, ","); is {
			wantKeeps(t, row("Connection", ahead, "connection", behind), 0, !closed && kept)
		}
	}
}

// P13.4: of any row, also one that may not be, and of a first line that may not be: only its Minor is asked.
func TestKeepsAnyRow(t *testing.T) {
	for _, l := range wrongRows() {
		if _, is := table.Get(l, "Connection"); !is {
			wantWords(t, l, false, false)
			wantWords(t, append(row("Connection", "keep-alive"), l...), false, true)
			wantWords(t, append(slices.Clone(l), row("Connection", "close")...), true, false)
		}
	}
	wantWords(t, []api.Field{{}}, false, false)
	wantWords(t, append(rowOf(1000), row("connection", "\x00,close")...), true, false)
	wantWords(t, row("Connection", " close "), true, false)
	wantWords(t, row("Connection", strings.Repeat("x,", 1000)+"close"), true, false)
	wantWords(t, row("Connection", strings.Repeat(" ", 2000)+"keep-alive"+strings.Repeat("\t", 2000)), false, true)
	for _, s := range []api.Start{{Method: "GET", Target: "/", Minor: 1}, {Code: 200, Reason: "OK", Minor: 1}, {Code: -1, Method: "x y", Minor: 1}} {
		if !Keeps(s, nil) || Keeps(s, row("Connection", "close")) {
			t.Errorf("Keeps(%v, ..) does not go by its Minor", s)
		}
		s.Minor = 0
		if Keeps(s, nil) || !Keeps(s, row("Connection", "keep-alive")) {
			t.Errorf("Keeps(%v, ..) does not go by its Minor", s)
		}
	}
}

// P1: great rows and long values end, and none panics.
func TestGreatInputs(t *testing.T) {
	many := rowOf(100000)
	wantRow(t, Strip, many, nil, api.ErrArg)
	wantRow(t, Down, many, nil, api.ErrArg)
	wantUpWrong(t, many, "h", "d", api.ErrArg)
	wantWords(t, many, false, false)
	var told []api.Field
	for i := range 100000 {
		told = append(told, api.Field{Name: "Connection", Value: "x" + strconv.Itoa(i) + ",y"})
	}
	wantWords(t, told, false, false)
	wantWords(t, append(told, api.Field{Name: "connection", Value: "Close"}), true, false)
	wantWords(t, row("Connection", strings.Repeat("keep-alive,", 200000)), false, true)
	wantWords(t, row("Connection", strings.Repeat(",", 1000000)), false, false)
	wantWords(t, row("Connection", strings.Repeat("a", 1000000)), false, false)
	wantWords(t, row(strings.Repeat("Connection", 100000), "close"), false, false)
	wantRow(t, Strip, row("Connection", strings.Repeat("a", 1000000)), nil, api.ErrArg)
	wantStrip(t, row(strings.Repeat("n", 1000000), "v", "Connection", "n"), row(strings.Repeat("n", 1000000), "v"))
	wantUpWrong(t, nil, strings.Repeat("h", 1000000), strings.Repeat("d", 1000000), api.ErrArg)
	wantUpWrong(t, nil, "", strings.Repeat(" ", 1000000), api.ErrText)
}
