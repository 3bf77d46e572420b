package number

import (
	"math"
	"math/big"
	"strings"
	"testing"

	"intarsia/api"
)

// The limit is written out, so that a wrong one is found.
const most = 1099511627776

const (
	decDigits = "0123456789"
	hexDigits = "0123456789abcdefABCDEF"
)

// many is more digits than any integer of the language has room for.
const many = 100000

// reader is ReadDec or ReadHex, with what it is to take.
type reader struct {
	name   string
	read   func(string) (uint64, api.Errno)
	write  func(uint64) string
	base   int
	digits string
	limit  string // 2^40 in its digits
	above  string // 2^40 + 1
}

func readers() []reader {
	return []reader{
		{"ReadDec", ReadDec, Dec, 10, decDigits, "1099511627776", "1099511627777"},
		{"ReadHex", ReadHex, Hex, 16, hexDigits, "10000000000", "10000000001"},
	}
}

func (r reader) want(t *testing.T, s string, n uint64, bad api.Errno) {
	t.Helper()
	gotN, gotBad := r.read(s)
	if gotN != n || gotBad != bad {
		t.Errorf("%s(%.40q of %d bytes) = %d, %d; want %d, %d", r.name, s, len(s), gotN, gotBad, n, bad)
	}
}

func wantSigned(t *testing.T, s string, n int64, bad api.Errno) {
	t.Helper()
	gotN, gotBad := Signed(s)
	if gotN != n || gotBad != bad {
		t.Errorf("Signed(%.40q of %d bytes) = %d, %d; want %d, %d", s, len(s), gotN, gotBad, n, bad)
	}
}

// expect tells by the library's great integers what a row of digits comes to.
func expect(s string, base int) (uint64, api.Errno) {
	n, ok := new(big.Int).SetString(s, base)
	switch {
	case !ok:
		return 0, api.ErrNumber
	case n.Cmp(big.NewInt(most)) > 0:
		return 0, api.ErrLong
	}
	return n.Uint64(), api.OK
}

// edges are numbers at which digits are gained, and at which a number may no longer be read.
func edges() []uint64 {
	numbers := []uint64{0, 1, 7, 255, 1000, most - 1, most, most + 1, math.MaxInt64, math.MaxUint64 - 1, math.MaxUint64}
	for _, base := range []uint64{2, 10, 16} {
		for p := base; ; p *= base {
			numbers = append(numbers, p-1, p, p+1)
			if p > math.MaxUint64/base {
				break
			}
		}
	}
	return numbers
}

// P2.1: Dec and Hex.
func TestDecAndHex(t *testing.T) {
	for _, c := range []struct {
		n        uint64
		dec, hex string
	}{
		{0, "0", "0"},
		{1, "1", "1"},
		{9, "9", "9"},
		{10, "10", "a"},
		{15, "15", "f"},
		{16, "16", "10"},
		{99, "99", "63"},
		{100, "100", "64"},
		{255, "255", "ff"},
		{256, "256", "100"},
		{1234567890, "1234567890", "499602d2"},
		{0xfedcba9876543210, "18364758544493064720", "fedcba9876543210"},
		{most, "1099511627776", "10000000000"},
		{most + 1, "1099511627777", "10000000001"},
		{math.MaxUint64, "18446744073709551615", "ffffffffffffffff"},
	} {
		if got := Dec(c.n); got != c.dec {
			t.Errorf("Dec(%d) = %q; want %q", c.n, got, c.dec)
		}
		if got := Hex(c.n); got != c.hex {
			t.Errorf("Hex(%d) = %q; want %q", c.n, got, c.hex)
		}
	}
}

// P2.1: each number's digits are of the kind, come to the number, and have no 0 ahead.
func TestDigitsOfEdges(t *testing.T) {
	for _, n := range edges() {
		for _, w := range []struct {
			got    string
			base   int
			digits string
		}{
			{Dec(n), 10, decDigits},
			{Hex(n), 16, "0123456789abcdef"},
		} {
			if w.got == "" || strings.Trim(w.got, w.digits) != "" {
				t.Errorf("%d in base %d is %q: no digits", n, w.base, w.got)
			}
			if w.got[0] == '0' && w.got != "0" {
				t.Errorf("%d in base %d is %q: a 0 ahead", n, w.base, w.got)
			}
			back, ok := new(big.Int).SetString(w.got, w.base)
			if !ok || !back.IsUint64() || back.Uint64() != n {
				t.Errorf("%d in base %d is %q", n, w.base, w.got)
			}
		}
	}
}

// P2.2: what is read.
func TestRead(t *testing.T) {
	dec, hex := readers()[0], readers()[1]
	dec.want(t, "0", 0, api.OK)
	dec.want(t, "7", 7, api.OK)
	dec.want(t, "1234567890", 1234567890, api.OK)
	dec.want(t, "1099511627775", most-1, api.OK)
	hex.want(t, "0", 0, api.OK)
	hex.want(t, "0Ff", 255, api.OK)
	hex.want(t, "10", 16, api.OK)
	hex.want(t, "abcdef", 0xabcdef, api.OK)
	hex.want(t, "ABCDEF", 0xabcdef, api.OK)
	hex.want(t, "AbCdEf", 0xabcdef, api.OK)
	hex.want(t, "0123456789", 0x123456789, api.OK)
	hex.want(t, "ffffffffff", most-1, api.OK)
	hex.want(t, "FFFFFFFFFF", most-1, api.OK)
	for _, r := range readers() {
		r.want(t, r.limit, most, api.OK)
		r.want(t, "000"+r.limit, most, api.OK)
	}
}

// P2.2: no byte at all, and bytes that are no digits, at any place.
func TestReadNoNumber(t *testing.T) {
	for _, r := range readers() {
		r.want(t, "", 0, api.ErrNumber)
		for i := range 256 {
			c := string([]byte{byte(i)})
			if strings.Contains(r.digits, c) {
				n, _ := expect(c, r.base)
				r.want(t, c, n, api.OK)
				continue
			}
			r.want(t, c, 0, api.ErrNumber)
			for at := range 5 {
				r.want(t, "1234"[:at]+c+"1234"[at:], 0, api.ErrNumber)
			}
		}
		for _, s := range []string{"+1", "-1", "1-", " 1", "1 ", "1\n", "1_0", "1.0", "0x1", "0o7", "1e+2", "\u0661", "\uff11"} {
			r.want(t, s, 0, api.ErrNumber)
		}
	}
	dec := readers()[0]
	for _, s := range []string{"1a", "a1", "0b2", "0xf", "1e2", "F"} {
		dec.want(t, s, 0, api.ErrNumber)
	}
}

// P2.2: above 2^40.
func TestReadTooLong(t *testing.T) {
	for _, r := range readers() {
		r.want(t, r.above, 0, api.ErrLong)
		r.want(t, "000"+r.above, 0, api.ErrLong)
		// One digit more, at the limit and above it.
		r.want(t, r.limit+"0", 0, api.ErrLong)
		r.want(t, r.above+"0", 0, api.ErrLong)
		for _, n := range edges() {
			if n > most {
				r.want(t, r.write(n), 0, api.ErrLong)
			}
		}
		// Just those at which 64 bits wrap round to a small number.
		for _, add := range []int64{0, 1, 5, most} {
			wraps := new(big.Int).Lsh(big.NewInt(1), 64)
			wraps.Add(wraps, big.NewInt(add))
			r.want(t, wraps.Text(r.base), 0, api.ErrLong)
		}
		for _, digit := range r.digits[1:] {
			r.want(t, strings.Repeat(string(digit), many), 0, api.ErrLong)
		}
		r.want(t, "1"+strings.Repeat("0", many), 0, api.ErrLong)
	}
}

// P2.2 and P1: a byte that is no digit comes first, though the number is above the limit ahead of it.
func TestReadNoNumberFirst(t *testing.T) {
	for _, r := range readers() {
		r.want(t, r.above+"g", 0, api.ErrNumber)
		r.want(t, "g"+r.above, 0, api.ErrNumber)
		r.want(t, r.above+"-", 0, api.ErrNumber)
		r.want(t, strings.Repeat("9", many)+" ", 0, api.ErrNumber)
		r.want(t, " "+strings.Repeat("9", many), 0, api.ErrNumber)
	}
}

// P2.3: what is read, with a `-` ahead and without one.
func TestSigned(t *testing.T) {
	wantSigned(t, "0", 0, api.OK)
	wantSigned(t, "-0", 0, api.OK)
	wantSigned(t, "-000", 0, api.OK)
	wantSigned(t, "7", 7, api.OK)
	wantSigned(t, "-7", -7, api.OK)
	wantSigned(t, "007", 7, api.OK)
	wantSigned(t, "-007", -7, api.OK)
	wantSigned(t, "1099511627776", most, api.OK)
	wantSigned(t, "-1099511627776", -most, api.OK)
	wantSigned(t, "0001099511627776", most, api.OK)
	wantSigned(t, "-0001099511627776", -most, api.OK)
}

// P2.3: what is no number, and what is above 2^40.
func TestSignedWrong(t *testing.T) {
	for _, s := range []string{"", "-", "--", "--1", "---1", "-+1", "+1", "+", "1-", "-1-", "1-1", "- 1", " -1", "-1 ", "-a", "a", "1a", "-1a", "-f", "\u22121"} {
		wantSigned(t, s, 0, api.ErrNumber)
	}
	for _, s := range []string{"1099511627777", "-1099511627777", "-10995116277760", "9223372036854775807", "-9223372036854775808", "18446744073709551615", "-18446744073709551617", strings.Repeat("9", many), "-" + strings.Repeat("9", many)} {
		wantSigned(t, s, 0, api.ErrLong)
	}
	for _, s := range []string{"1099511627777a", "-1099511627777a", "-1099511627777-", "-" + strings.Repeat("9", many) + "x"} {
		wantSigned(t, s, 0, api.ErrNumber)
	}
}

// P2.3: Signed is ReadDec of what is behind the `-`, or of all.
func TestSignedIsReadDec(t *testing.T) {
	texts := []string{"", "0", "00", "5", "05", "-", "-5", "--5", "1099511627776", "1099511627777", "12x", "ff", " 1", strings.Repeat("8", 30)}
	for i := range 256 {
		texts = append(texts, string([]byte{byte(i)}), string([]byte{byte(i), '1'}))
	}
	for _, s := range texts {
		n, bad := ReadDec(s)
		wantSigned(t, "-"+s, -int64(n), bad)
		if !strings.HasPrefix(s, "-") {
			wantSigned(t, s, int64(n), bad)
		}
	}
}

// P2.4: numbers and their digits lead to one another; zeros ahead change nothing.
func TestThereAndBack(t *testing.T) {
	for _, n := range edges() {
		if n > most {
			continue
		}
		for _, r := range readers() {
			s := r.write(n)
			r.want(t, s, n, api.OK)
			r.want(t, strings.ToUpper(s), n, api.OK)
			for _, zeros := range []int{1, 2, 17, many} {
				padded := strings.Repeat("0", zeros) + s
				r.want(t, padded, n, api.OK)
				if back, _ := r.read(padded); r.write(back) != s {
					t.Errorf("%s: %q with %d zeros ahead leads to %q", r.name, s, zeros, r.write(back))
				}
			}
		}
		wantSigned(t, Dec(n), int64(n), api.OK)
		wantSigned(t, "-"+Dec(n), -int64(n), api.OK)
		wantSigned(t, "-00"+Dec(n), -int64(n), api.OK)
	}
}

// P2.4: zeros ahead change no error either.
func TestZerosAheadOfErrors(t *testing.T) {
	zeros := strings.Repeat("0", many)
	for _, r := range readers() {
		r.want(t, zeros, 0, api.OK)
		r.want(t, zeros+r.above, 0, api.ErrLong)
		r.want(t, zeros+"g", 0, api.ErrNumber)
		r.want(t, zeros+r.above+"g", 0, api.ErrNumber)
	}
	wantSigned(t, "-"+zeros, 0, api.OK)
	wantSigned(t, "-"+zeros+"1099511627777", 0, api.ErrLong)
	wantSigned(t, zeros+"-1", 0, api.ErrNumber)
}

// P2.2 and P1: every text of few bytes out of those that matter.
func TestEveryShortText(t *testing.T) {
	const letters = "019afgAFG-+ _"
	texts := []string{""}
	for range 3 {
		for _, s := range texts {
			for i := range len(letters) {
				texts = append(texts, s+letters[i:i+1])
			}
		}
	}
	for _, s := range texts {
		for _, r := range readers() {
			n, bad := uint64(0), api.ErrNumber
			if s != "" && strings.Trim(s, r.digits) == "" {
				n, bad = expect(s, r.base)
			}
			r.want(t, s, n, bad)
		}
	}
}
