package queue

import (
	"math"
	"strings"
	"testing"

	"intarsia/api"
)

// The limit is written out, so that a wrong one is found.
const most = 65536

// wrongQueues may not be: their Cap is out of bounds, or they have more bytes than it.
func wrongQueues() []api.Queue {
	return []api.Queue{
		{},
		{Cap: -1},
		{Cap: math.MinInt},
		{Cap: most + 1},
		{Cap: math.MaxInt},
		{Bytes: "a\n"},
		{Bytes: "a\n", Cap: -1},
		{Bytes: "a\n", Cap: 1},
		{Bytes: "a\n", Cap: most + 1},
		{Bytes: strings.Repeat("\n", most+1), Cap: most},
		{Bytes: strings.Repeat("\n", most+1), Cap: most + 1},
	}
}

// allBytes has each byte once, so that no byte is treated as another.
func allBytes() string {
	var b strings.Builder
	for i := range 256 {
		b.WriteByte(byte(i))
	}
	return b.String()
}

// P1.1: New.
func TestNew(t *testing.T) {
	for _, size := range []int{1, 2, 3, 1000, most - 1, most} {
		q, bad := New(size)
		if bad != api.OK || q != (api.Queue{Cap: size}) {
			t.Errorf("New(%d) = %v, %d", size, q, bad)
		}
	}
	for _, size := range []int{0, -1, -most, most + 1, math.MinInt, math.MaxInt} {
		q, bad := New(size)
		if bad != api.ErrArg || q != (api.Queue{}) {
			t.Errorf("New(%d) = %v, %d", size, q, bad)
		}
	}
}

// P1.1: Right and Room.
func TestRightAndRoom(t *testing.T) {
	full := strings.Repeat("x", most)
	for _, c := range []struct {
		q    api.Queue
		room int
	}{
		{api.Queue{Cap: 1}, 1},
		{api.Queue{Bytes: "a", Cap: 1}, 0},
		{api.Queue{Bytes: "ab", Cap: 3}, 1},
		{api.Queue{Bytes: "\xff\x00", Cap: 5}, 3},
		{api.Queue{Bytes: "é", Cap: 3}, 1},
		{api.Queue{Cap: most}, most},
		{api.Queue{Bytes: "a", Cap: most}, most - 1},
		{api.Queue{Bytes: full, Cap: most}, 0},
	} {
		if !Right(c.q) {
			t.Errorf("a queue of Cap %d with %d bytes may be", c.q.Cap, len(c.q.Bytes))
		}
		if room := Room(c.q); room != c.room {
			t.Errorf("Cap %d with %d bytes: room %d, not %d", c.q.Cap, len(c.q.Bytes), room, c.room)
		}
	}
	for _, q := range wrongQueues() {
		if Right(q) || Room(q) != 0 {
			t.Errorf("Cap %d with %d bytes: %v, room %d", q.Cap, len(q.Bytes), Right(q), Room(q))
		}
	}
}

// P1.2: Put.
func TestPut(t *testing.T) {
	for _, c := range []struct {
		have string
		size int
		s    string
		want string
		n    int
	}{
		{"", 3, "abcd", "abc", 3},
		{"", 3, "abc", "abc", 3},
		{"", 3, "ab", "ab", 2},
		{"", 3, "", "", 0},
		{"a", 3, "bcd", "abc", 2},
		{"a", 3, "b", "ab", 1},
		{"abc", 3, "d", "abc", 0},
		{"abc", 3, "", "abc", 0},
		{"", 1, "ab", "a", 1},
		{"a", 1, "b", "a", 0},
		{"a", 4, "\r\n\x00\xff", "a\r\n\x00", 3},
		{"", 1, "é", "\xc3", 1},
		{"", 256, allBytes(), allBytes(), 256},
		{"", most, strings.Repeat("x", most+1), strings.Repeat("x", most), most},
		{strings.Repeat("x", most-1), most, "yz", strings.Repeat("x", most-1) + "y", 1},
	} {
		q, n, bad := Put(api.Queue{Bytes: c.have, Cap: c.size}, c.s)
		if q != (api.Queue{Bytes: c.want, Cap: c.size}) || n != c.n || bad != api.OK {
			t.Errorf("%.20q of Cap %d: Put(%.20q) = %.20q of Cap %d, %d, %d", c.have, c.size, c.s, q.Bytes, q.Cap, n, bad)
		}
	}
}

// P1.2: Take.
func TestTake(t *testing.T) {
	full := strings.Repeat("x", most)
	for _, c := range []struct {
		have string
		size int
		n    int
		rest string
		told string
	}{
		{"abc", 5, 0, "abc", ""},
		{"abc", 5, 1, "bc", "a"},
		{"abc", 5, 2, "c", "ab"},
		{"abc", 5, 3, "", "abc"},
		{"abc", 5, 4, "", "abc"},
		{"abc", 5, math.MaxInt, "", "abc"},
		{"abc", 3, 2, "c", "ab"},
		{"", 5, 0, "", ""},
		{"", 5, 1, "", ""},
		{"a", 1, 1, "", "a"},
		{"\r\n\x00\xff", 5, 3, "\xff", "\r\n\x00"},
		{allBytes(), 256, 256, "", allBytes()},
		{full, most, most - 1, "x", full[1:]},
		{full, most, most + 1, "", full},
	} {
		q, told, bad := Take(api.Queue{Bytes: c.have, Cap: c.size}, c.n)
		if q != (api.Queue{Bytes: c.rest, Cap: c.size}) || told != c.told || bad != api.OK {
			t.Errorf("%.20q of Cap %d: Take(%d) = %.20q of Cap %d, %.20q, %d", c.have, c.size, c.n, q.Bytes, q.Cap, told, bad)
		}
	}
}

// P1.2: how many are taken may not be below 0, of any queue.
func TestTakeBelowZero(t *testing.T) {
	for _, n := range []int{-1, -2, math.MinInt} {
		for _, q := range []api.Queue{{Bytes: "abc", Cap: 5}, {Cap: 1}, {}} {
			rest, told, bad := Take(q, n)
			if rest != (api.Queue{}) || told != "" || bad != api.ErrArg {
				t.Errorf("%v: Take(%d) = %v, %q, %d", q, n, rest, told, bad)
			}
		}
	}
}

// P1.3: Line.
func TestLine(t *testing.T) {
	long := strings.Repeat("x", most-1)
	for _, c := range []struct {
		have string
		size int
		rest string
		told string
	}{
		{"ab\ncd", 9, "cd", "ab"},
		{"ab\r\ncd", 9, "cd", "ab"},
		{"ab\r\r\ncd", 9, "cd", "ab\r"},
		{"a\rb\ncd", 9, "cd", "a\rb"},
		{"\rab\n", 9, "", "\rab"},
		{"ab\n\r", 9, "\r", "ab"},
		{"ab\ncd\r\nef\n", 20, "cd\r\nef\n", "ab"},
		{"ab\n\ncd", 9, "\ncd", "ab"},
		{"\n", 1, "", ""},
		{"\r\n", 2, "", ""},
		{"\nab", 3, "ab", ""},
		{"\r\nab", 4, "ab", ""},
		{"a\x00\xff \t\n", 9, "", "a\x00\xff \t"},
		{long + "\n", most, "", long},
	} {
		q, told, bad := Line(api.Queue{Bytes: c.have, Cap: c.size})
		if q != (api.Queue{Bytes: c.rest, Cap: c.size}) || told != c.told || bad != api.OK {
			t.Errorf("%.20q of Cap %d: Line = %.20q of Cap %d, %.20q, %d", c.have, c.size, q.Bytes, q.Cap, told, bad)
		}
	}
}

// P1.3: a queue without a byte 10 stays as it is.
func TestLineShort(t *testing.T) {
	for _, q := range []api.Queue{
		{Cap: 1},
		{Bytes: "ab", Cap: 5},
		{Bytes: "ab\r", Cap: 5},
		{Bytes: "\r", Cap: 1},
		{Bytes: strings.ReplaceAll(allBytes(), "\n", ""), Cap: 255},
		{Bytes: strings.Repeat("x", most), Cap: most},
	} {
		rest, told, bad := Line(q)
		if rest != q || told != "" || bad != api.ErrShort {
			t.Errorf("%.20q of Cap %d: Line = %.20q of Cap %d, %.20q, %d", q.Bytes, q.Cap, rest.Bytes, rest.Cap, told, bad)
		}
	}
}

// P1.2, P1.3: a queue that may not be is refused ahead of all else, and nothing stands beside the error.
func TestWrongQueue(t *testing.T) {
	for _, q := range wrongQueues() {
		for _, s := range []string{"", "a", "a\n"} {
			if rest, n, bad := Put(q, s); rest != (api.Queue{}) || n != 0 || bad != api.ErrArg {
				t.Errorf("%.20q of Cap %d: Put(%q) answers %d, %d", q.Bytes, q.Cap, s, n, bad)
			}
		}
		for _, n := range []int{math.MinInt, -1, 0, 1, math.MaxInt} {
			if rest, told, bad := Take(q, n); rest != (api.Queue{}) || told != "" || bad != api.ErrArg {
				t.Errorf("%.20q of Cap %d: Take(%d) answers %.20q, %d", q.Bytes, q.Cap, n, told, bad)
			}
		}
		if rest, told, bad := Line(q); rest != (api.Queue{}) || told != "" || bad != api.ErrArg {
			t.Errorf("%.20q of Cap %d: Line answers %.20q, %d", q.Bytes, q.Cap, told, bad)
		}
	}
}

// play puts and takes by turns, and answers what had room, what was told, and the queue that is left.
func play(t *testing.T, size int, source string, puts, takes []int) (had, told string, q api.Queue) {
	t.Helper()
	q, bad := New(size)
	if bad != api.OK {
		t.Fatal(bad)
	}
	for turn := 0; source != ""; turn++ {
		piece := source[:min(puts[turn%len(puts)], len(source))]
		source = source[len(piece):]
		room := Room(q)
		var n int
		q, n, bad = Put(q, piece)
		if bad != api.OK || n != min(room, len(piece)) || !Right(q) || Room(q) != room-n {
			t.Fatalf("Put(%q) with room %d: %d, %d, then room %d", piece, room, n, bad, Room(q))
		}
		had += piece[:n]
		var off string
		q, off, bad = Take(q, takes[turn%len(takes)])
		if bad != api.OK || !Right(q) || q.Cap != size {
			t.Fatalf("Take: %v, %d", q, bad)
		}
		told += off
	}
	return had, told, q
}

// P1.4: in whatever pieces, what is taken off and what is left is what was put and had room, in order.
func TestInOrder(t *testing.T) {
	source := strings.Repeat(allBytes(), 3)
	turns := [][]int{{1}, {2, 1}, {3, 5}, {7, 1, 4}, {1, 9, 2, 6}, {300}}
	for _, size := range []int{1, 2, 3, 8, 255, most} {
		for _, puts := range turns {
			for _, takes := range append(turns, []int{0}, []int{0, 2}) {
				had, told, q := play(t, size, source, puts, takes)
				if told+q.Bytes != had {
					t.Fatalf("Cap %d, puts %v, takes %v: %q, %q left, of %q", size, puts, takes, told, q.Bytes, had)
				}
				if _, rest, bad := Take(q, size); bad != api.OK || told+rest != had {
					t.Fatalf("Cap %d, puts %v, takes %v: at the end %q, %d", size, puts, takes, rest, bad)
				}
			}
		}
	}
}

// P1.4: lines that are taken off between puts are those that were put, wherever the bytes are cut.
func TestLinesInOrder(t *testing.T) {
	source := "one\r\ntwo\n\r\n\nthree\r\r\nrest"
	want := []string{"one", "two", "", "", "three\r"}
	for piece := 1; piece <= len(source); piece++ {
		q, _ := New(len(source))
		var lines []string
		for at := 0; at < len(source); at += piece {
			part := source[at:min(at+piece, len(source))]
			var n int
			var bad api.Errno
			if q, n, bad = Put(q, part); bad != api.OK || n != len(part) {
				t.Fatal(n, bad)
			}
			for bad == api.OK {
				var line string
				if q, line, bad = Line(q); bad == api.OK {
					lines = append(lines, line)
				}
			}
			if bad != api.ErrShort {
				t.Fatal(bad)
			}
		}
		if strings.Join(lines, "|") != strings.Join(want, "|") || q.Bytes != "rest" {
			t.Errorf("pieces of %d: %q, %q left", piece, lines, q.Bytes)
		}
	}
}

// R1: the same question has the same answer, and a queue that was handed in is as it was.
func TestNothingIsKept(t *testing.T) {
	q := api.Queue{Bytes: "ab\ncd", Cap: 8}
	for range 3 {
		put, n, _ := Put(q, "efgh")
		taken, told, _ := Take(q, 2)
		left, line, _ := Line(q)
		if put.Bytes != "ab\ncdefg" || n != 3 || taken.Bytes != "\ncd" || told != "ab" || left.Bytes != "cd" || line != "ab" {
			t.Error(put, n, taken, told, left, line)
		}
		if q != (api.Queue{Bytes: "ab\ncd", Cap: 8}) {
			t.Fatal(q)
		}
	}
}
