package table

import (
	"slices"
	"strconv"
	"strings"
	"testing"

	"intarsia/api"
)

// tokenBytes is written out, so that one too many or too few is found.
const tokenBytes = "abcdefghijklmnopqrstuvwxyzABCDEFGHIJKLMNOPQRSTUVWXYZ0123456789!#$%&'*+-.^_|~\x60"

// row makes fields of names, each with its value behind it.
func row(texts ...string) []api.Field {
	var l []api.Field
	for i := 0; i < len(texts); i += 2 {
		l = append(l, api.Field{Name: texts[i], Value: texts[i+1]})
	}
	return l
}

// rowOf makes a row of so many fields, n0, n1 and so on, each with its number as its value.
func rowOf(count int) []api.Field {
	var l []api.Field
	for i := range count {
		l = append(l, api.Field{Name: "n" + strconv.Itoa(i), Value: strconv.Itoa(i)})
	}
	return l
}

// with is a copy of the row that has another field at a place.
func with(l []api.Field, at int, name, value string) []api.Field {
	m := slices.Clone(l)
	m[at] = api.Field{Name: name, Value: value}
	return m
}

// guarded is the row with more memory behind it, so that a call that writes there is found.
func guarded(l []api.Field) (handed, all []api.Field) {
	all = slices.Concat(l, row("guard", "1", "guard", "2"))
	return all[:len(l)], all
}

func wantRow(t *testing.T, call string, l []api.Field, name, value string, got, want []api.Field, gotBad, bad api.Errno) {
	t.Helper()
	if gotBad != bad || !slices.Equal(got, want) {
		t.Errorf("%s(%.200q, %.40q, %.40q) = %.200q, %d; want %.200q, %d", call, l, name, value, got, gotBad, want, bad)
	}
}

func wantAdd(t *testing.T, l []api.Field, name, value string, want []api.Field, bad api.Errno) {
	t.Helper()
	got, gotBad := Add(l, name, value)
	wantRow(t, "Add", l, name, value, got, want, gotBad, bad)
}

func wantSet(t *testing.T, l []api.Field, name, value string, want []api.Field, bad api.Errno) {
	t.Helper()
	got, gotBad := Set(l, name, value)
	wantRow(t, "Set", l, name, value, got, want, gotBad, bad)
}

func wantRemove(t *testing.T, l []api.Field, name string, want []api.Field) {
	t.Helper()
	if got := Remove(l, name); !slices.Equal(got, want) {
		t.Errorf("Remove(%.200q, %q) = %.200q; want %.200q", l, name, got, want)
	}
}

// wantValues asks all three calls that tell what values a name has.
func wantValues(t *testing.T, l []api.Field, name string, values ...string) {
	t.Helper()
	if got := All(l, name); !slices.Equal(got, values) {
		t.Errorf("All(%.200q, %q) = %.200q; want %.200q", l, name, got, values)
	}
	first := ""
	if len(values) > 0 {
		first = values[0]
	}
	if got, is := Get(l, name); got != first || is != (len(values) > 0) {
		t.Errorf("Get(%.200q, %q) = %.60q, %t; want %.60q, %t", l, name, got, is, first, len(values) > 0)
	}
	joined := strings.Join(values, ", ")
	if got, is := Joined(l, name); got != joined || is != (len(values) > 0) {
		t.Errorf("Joined(%.200q, %q) = %.60q, %t; want %.60q, %t", l, name, got, is, joined, len(values) > 0)
	}
}

// rightValues are at the document's edges, just within.
func rightValues() []string {
	return []string{
		"", "x", "a b", "a\tb", "a \t b", `"`, ",", "a:b", "a\x80", "\xff", "\xa0", "\xc2\xa0", "ä", "~", "!",
		strings.Repeat("v", 999), strings.Repeat("v", 1000), strings.Repeat("\xff", 1000),
	}
}

// wrongValues are just beyond.
func wrongValues() []string {
	return []string{
		" ", "\t", " x", "x ", "\tx", "x\t", " x ", "\n", "x\r\n", "x\r\ny", "\x7f", "a\x7fb", "a\x00b", "a\x1fb",
		strings.Repeat("v", 1001), strings.Repeat("v", 1000) + " ", strings.Repeat("v", 100000),
	}
}

func wrongNames() []string {
	return []string{"", " ", "a b", " a", "a ", "a:", "a\t", "a\r", "a\x00", "a\x7f", "a,", "(a)", `"a"`, "a/b", "a=b", "ä", "\xff"}
}

// P4.1: a row may be by its number of fields, which is at most 40.
func TestRightNumber(t *testing.T) {
	for _, c := range []struct {
		l    []api.Field
		want bool
	}{
		{nil, true},
		{[]api.Field{}, true},
		{rowOf(1), true},
		{rowOf(39), true},
		{rowOf(40), true},
		{rowOf(41), false},
		{rowOf(1000), false},
		{row("a", "1", "A", "2", "a", "1"), true},
	} {
		if got := Right(c.l); got != c.want {
			t.Errorf("Right of %d fields = %t; want %t", len(c.l), got, c.want)
		}
	}
}

// P4.1: each byte of a name and of a value, at its beginning, in its middle and at its end.
func TestRightBytes(t *testing.T) {
	for i := range 256 {
		c := string([]byte{byte(i)})
		inName := strings.Contains(tokenBytes, c)
		inValue := i >= 32 && i != 127 || i == 9
		atEnd := inValue && i != 32 && i != 9
		for _, k := range []struct {
			name, value string
			want        bool
		}{
			{c, "v", inName},
			{c + "n", "v", inName},
			{"n" + c + "n", "v", inName},
			{"n" + c, "v", inName},
			{"n", c, atEnd},
			{"n", c + "v", atEnd},
			{"n", "v" + c + "v", inValue},
			{"n", "v" + c, atEnd},
		} {
			if got := Right(row(k.name, k.value)); got != k.want {
				t.Errorf("Right of %q: %q = %t; want %t", k.name, k.value, got, k.want)
			}
		}
	}
}

// P4.1: one field that may not be, wherever it stands, has the row not be.
func TestRightFields(t *testing.T) {
	for _, v := range rightValues() {
		for _, at := range []int{0, 20, 39} {
			if !Right(with(rowOf(40), at, "n", v)) {
				t.Errorf("Right of a row with the value %.60q at %d = false; want true", v, at)
			}
		}
	}
	for _, at := range []int{0, 20, 39} {
		for _, v := range wrongValues() {
			if Right(with(rowOf(40), at, "n", v)) {
				t.Errorf("Right of a row with the value %.60q at %d = true; want false", v, at)
			}
		}
		for _, n := range wrongNames() {
			if Right(with(rowOf(40), at, n, "v")) {
				t.Errorf("Right of a row with the name %q at %d = true; want false", n, at)
			}
		}
	}
	if !Right(row(strings.Repeat("n", 5000), "v")) {
		t.Error("Right of a name of 5000 bytes = false; want true: only values have a bound")
	}
}

// P4.1: Add puts the field behind, whatever stands there of its name.
func TestAdd(t *testing.T) {
	wantAdd(t, nil, "a", "1", row("a", "1"), api.OK)
	wantAdd(t, []api.Field{}, "a", "", row("a", ""), api.OK)
	wantAdd(t, row("a", "1"), "a", "1", row("a", "1", "a", "1"), api.OK)
	wantAdd(t, row("a", "1", "b", "2"), "A", "3", row("a", "1", "b", "2", "A", "3"), api.OK)
	wantAdd(t, rowOf(38), "n38", "38", rowOf(39), api.OK)
	wantAdd(t, rowOf(39), "n39", "39", rowOf(40), api.OK)
	for _, v := range rightValues() {
		wantAdd(t, row("b", "2"), "a", v, row("b", "2", "a", v), api.OK)
	}
}

// P4.1: Add refuses a row or a field that may not be, and a 41st field.
func TestAddRefuses(t *testing.T) {
	wantAdd(t, rowOf(40), "a", "1", nil, api.ErrMany)
	wantAdd(t, rowOf(40), "n0", "0", nil, api.ErrMany)
	wantAdd(t, rowOf(41), "a", "1", nil, api.ErrArg)
	for _, count := range []int{0, 1, 39, 40, 41} {
		for _, v := range wrongValues() {
			wantAdd(t, rowOf(count), "a", v, nil, api.ErrArg)
		}
		for _, n := range wrongNames() {
			wantAdd(t, rowOf(count), n, "v", nil, api.ErrArg)
		}
	}
	for _, at := range []int{0, 39} {
		wantAdd(t, with(rowOf(40), at, "b c", "1"), "a", "1", nil, api.ErrArg)
		wantAdd(t, with(rowOf(40), at, "b", " 1"), "a", "1", nil, api.ErrArg)
	}
	wantAdd(t, row("", "1"), "a", "1", nil, api.ErrArg)
	wantAdd(t, row("a", "1\n"), "a", "1", nil, api.ErrArg)
}

// P4.1: Set has the field stand where the first one of its name stood, or behind.
func TestSet(t *testing.T) {
	wantSet(t, nil, "a", "1", row("a", "1"), api.OK)
	wantSet(t, []api.Field{}, "a", "", row("a", ""), api.OK)
	l := row("a", "1", "b", "2", "c", "3")
	wantSet(t, l, "a", "9", row("a", "9", "b", "2", "c", "3"), api.OK)
	wantSet(t, l, "B", "9", row("a", "1", "B", "9", "c", "3"), api.OK)
	wantSet(t, l, "c", "", row("a", "1", "b", "2", "c", ""), api.OK)
	wantSet(t, l, "d", "9", row("a", "1", "b", "2", "c", "3", "d", "9"), api.OK)
	wantSet(t, l, "ab", "9", row("a", "1", "b", "2", "c", "3", "ab", "9"), api.OK)
	m := row("x", "0", "Ab", "1", "y", "2", "aB", "3", "AB", "4", "z", "5", "ab", "6")
	wantSet(t, m, "AB", "9", row("x", "0", "AB", "9", "y", "2", "z", "5"), api.OK)
	wantSet(t, row("a", "1", "A", "2"), "a", "3", row("a", "3"), api.OK)
	wantSet(t, row("a", "1"), "A", "1", row("A", "1"), api.OK)
	for _, v := range rightValues() {
		wantSet(t, l, "b", v, row("a", "1", "b", v, "c", "3"), api.OK)
		wantSet(t, l, "d", v, row("a", "1", "b", "2", "c", "3", "d", v), api.OK)
	}
}

// P4.1: in a row of 40 there is room for a name that stands there, and for no other.
func TestSetInFullRow(t *testing.T) {
	wantSet(t, rowOf(39), "a", "1", slices.Concat(rowOf(39), row("a", "1")), api.OK)
	for _, at := range []int{0, 20, 39} {
		name := "N" + strconv.Itoa(at)
		wantSet(t, rowOf(40), name, "new", with(rowOf(40), at, name, "new"), api.OK)
	}
	wantSet(t, rowOf(40), "a", "1", nil, api.ErrMany)
	several := with(with(with(rowOf(40), 3, "a", "x"), 4, "A", "y"), 39, "a", "z")
	want := slices.Concat(rowOf(3), row("A", "1"), rowOf(39)[5:])
	wantSet(t, several, "A", "1", want, api.OK)
	all := slices.Repeat(row("a", "x"), 40)
	wantSet(t, all, "A", "1", row("A", "1"), api.OK)
	wantSet(t, all, "b", "1", nil, api.ErrMany)
}

// P4.1: Set refuses what Add does, and a row that may not be even where what is wrong has the name that is set.
func TestSetRefuses(t *testing.T) {
	wantSet(t, rowOf(41), "a", "1", nil, api.ErrArg)
	wantSet(t, rowOf(41), "n0", "1", nil, api.ErrArg)
	wantSet(t, slices.Repeat(row("a", "x"), 41), "a", "1", nil, api.ErrArg)
	for _, count := range []int{0, 1, 39, 40, 41} {
		for _, v := range wrongValues() {
			wantSet(t, rowOf(count), "a", v, nil, api.ErrArg)
			wantSet(t, rowOf(count), "n0", v, nil, api.ErrArg)
		}
		for _, n := range wrongNames() {
			wantSet(t, rowOf(count), n, "v", nil, api.ErrArg)
		}
	}
	for _, at := range []int{0, 39} {
		wantSet(t, with(rowOf(40), at, "b c", "1"), "a", "1", nil, api.ErrArg)
		wantSet(t, with(rowOf(40), at, "b", " 1"), "a", "1", nil, api.ErrArg)
		wantSet(t, with(rowOf(40), at, "a", " 1"), "a", "1", nil, api.ErrArg)
	}
	wantSet(t, row("a", "1\n"), "a", "1", nil, api.ErrArg)
	wantSet(t, row("a b", "1"), "a b", "1", nil, api.ErrArg)
	wantSet(t, row("", "1"), "", "1", nil, api.ErrArg)
}

// P4.2: Remove takes all of a name out; a row or a name that may not be is no error to it.
func TestRemove(t *testing.T) {
	wantRemove(t, nil, "a", nil)
	wantRemove(t, []api.Field{}, "", nil)
	l := row("A", "1", "b", "2", "a", "3")
	wantRemove(t, l, "a", row("b", "2"))
	wantRemove(t, l, "B", row("A", "1", "a", "3"))
	wantRemove(t, l, "c", l)
	wantRemove(t, l, "", l)
	wantRemove(t, row("a", "1", "A", "2"), "A", nil)
	wantRemove(t, rowOf(40), "n39", rowOf(39))
	wantRemove(t, rowOf(41), "N40", rowOf(40))
	wantRemove(t, row("", " ", "a b", "\n", "c", "1"), "", row("a b", "\n", "c", "1"))
	wantRemove(t, row("", " ", "a b", "\n", "c", "1"), "A B", row("", " ", "c", "1"))
}

// P4.2: Get is the first value, All are all of them in order, Joined has a comma and a blank between.
func TestValues(t *testing.T) {
	wantValues(t, nil, "a")
	wantValues(t, []api.Field{}, "")
	l := row("A", "1", "b", "2", "a", "3")
	wantValues(t, l, "a", "1", "3")
	wantValues(t, l, "A", "1", "3")
	wantValues(t, l, "B", "2")
	wantValues(t, l, "c")
	wantValues(t, l, "")
	wantValues(t, l, "aa")
	wantValues(t, row("a", "2", "A", "1", "a", "2"), "a", "2", "1", "2")
	wantValues(t, row("a", ""), "a", "")
	wantValues(t, row("a", "", "A", ""), "a", "", "")
	wantValues(t, row("a", "", "b", "x", "a", "y"), "A", "", "y")
	wantValues(t, row("a", "1, 2", "a", ",", "a", "\xff\tb"), "a", "1, 2", ",", "\xff\tb")
	wantValues(t, rowOf(40), "n39", "39")
	wantValues(t, rowOf(41), "N40", "40")
	wantValues(t, row("", " ", "a b", "\n"), "", " ")
	wantValues(t, row("", " ", "a b", "\n"), "A B", "\n")
	wantValues(t, row("a", strings.Repeat("v", 1001)), "a", strings.Repeat("v", 1001))
}

// P4.2: the document's example, with its comma and blank written out.
func TestJoinedExample(t *testing.T) {
	if got, is := Joined(row("A", "1", "b", "2", "a", "3"), "a"); got != "1, 3" || !is {
		t.Errorf("Joined = %q, %t; want %q, true", got, is, "1, 3")
	}
	if got, is := Joined(row("a", "", "a", ""), "a"); got != ", " || !is {
		t.Errorf("Joined of two empty values = %q, %t; want %q, true", got, is, ", ")
	}
}

// P4.2: names are the same by their letters A to Z and a to z alone.
func TestNamesByLetters(t *testing.T) {
	l := row("Content-Type", "1", "content_type", "2", "^", "3", "~", "4", "@", "5", "`", "6", "\xc3\x84", "7")
	wantValues(t, l, "CONTENT-TYPE", "1")
	wantValues(t, l, "Content_Type", "2")
	wantValues(t, l, "^", "3")
	wantValues(t, l, "~", "4")
	wantValues(t, l, "`", "6")
	wantValues(t, l, "\xc3\xa4")
	wantValues(t, l, " Content-Type")
}

// rows are all those of at most so many fields out of some.
func rows(fields []api.Field, most int) [][]api.Field {
	all := [][]api.Field{nil}
	from := 0
	for range most {
		to := len(all)
		for _, l := range all[from:to] {
			for _, f := range fields {
				all = append(all, slices.Concat(l, []api.Field{f}))
			}
		}
		from = to
	}
	return all
}

// P4.3: over all short rows, what is set is got as the one of its name, what is removed is not got, and the others stay in order.
func TestWhatFollows(t *testing.T) {
	for _, l := range rows(row("a", "1", "A", "2", "b", "3", "B", "", "c", "4"), 5) {
		for _, name := range []string{"a", "B", "c", "d"} {
			isOther := func(f api.Field) bool { return !strings.EqualFold(f.Name, name) }
			others := slices.DeleteFunc(slices.Clone(l), func(f api.Field) bool { return !isOther(f) })
			set, bad := Set(l, name, "new")
			if bad != api.OK {
				t.Fatalf("Set(%q, %q) = %d; want 0", l, name, bad)
			}
			wantValues(t, set, name, "new")
			at := slices.IndexFunc(l, func(f api.Field) bool { return !isOther(f) })
			if at < 0 {
				at = len(l)
			}
			if set[at] != (api.Field{Name: name, Value: "new"}) {
				t.Errorf("Set(%q, %q) = %q; want its field at %d", l, name, set, at)
			}
			if left := slices.Delete(slices.Clone(set), at, at+1); !slices.Equal(left, others) {
				t.Errorf("Set(%q, %q) = %q; want the others to be %q", l, name, set, others)
			}
			removed := Remove(l, name)
			wantValues(t, removed, name)
			if !slices.Equal(removed, others) {
				t.Errorf("Remove(%q, %q) = %q; want %q", l, name, removed, others)
			}
		}
	}
}

// R4: no call changes the row that it was handed, nor the memory behind it, nor does a row that is answered share any with it.
func TestRowsStay(t *testing.T) {
	for _, l := range [][]api.Field{{}, rowOf(1), rowOf(39), rowOf(40), row("a", "1", "b", "2", "A", "3", "c", "4")} {
		handed, all := guarded(l)
		before := slices.Clone(all)
		for _, name := range []string{"a", "b", "c", "n0", "n20", "n39", "none", "no token", ""} {
			added, _ := Add(handed, name, "9")
			set, _ := Set(handed, name, "9")
			removed := Remove(handed, name)
			Right(handed)
			Get(handed, name)
			Joined(handed, name)
			values := All(handed, name)
			for _, answer := range [][]api.Field{added, set, removed} {
				clear(answer[:cap(answer)])
			}
			clear(values)
			if !slices.Equal(all, before) {
				t.Fatalf("calls of %q changed %q to %q", name, before, all)
			}
		}
	}
}
