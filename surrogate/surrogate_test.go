package surrogate

import (
	"regexp"
	"slices"
	"strings"
	"testing"

	"intarsia/api"
	"intarsia/text"
)

// row makes words of texts, three for each one: its name, its value and its device.
func row(texts ...string) []api.Word {
	var l []api.Word
	for i := 0; i < len(texts); i += 3 {
		l = append(l, api.Word{Name: texts[i], Value: texts[i+1], Device: texts[i+2]})
	}
	return l
}

func wantWords(t *testing.T, s string, want ...string) {
	t.Helper()
	if got, bad := Read(s); bad != api.OK || !slices.Equal(got, row(want...)) {
		t.Errorf("Read(%.200q) = %.200q, %d; want %.200q", s, got, bad, row(want...))
	}
}

func wantWrong(t *testing.T, s string) {
	t.Helper()
	if got, bad := Read(s); bad != api.ErrText || len(got) != 0 {
		t.Errorf("Read(%.200q) = %.200q, %d; want ErrText alone", s, got, bad)
	}
}

func wantAsks(t *testing.T, s, device string, want bool) {
	t.Helper()
	if got := Asks(s, device); got != want {
		t.Errorf("Asks(%.200q, %.200q) = %t; want %t", s, device, got, want)
	}
}

func wantCan(t *testing.T, others, device, want string, wantBad api.Errno) {
	t.Helper()
	if got, bad := Can(others, device); got != want || bad != wantBad {
		t.Errorf("Can(%.200q, %.200q) = %.200q, %d; want %.200q, %d", others, device, got, bad, want, wantBad)
	}
}

// joinedTexts are all texts of at most so many of the parts.
func joinedTexts(parts []string, most int) []string {
	all := []string{""}
	from := 0
	for range most {
		to := len(all)
		for _, s := range all[from:to] {
			for _, part := range parts {
				all = append(all, s+part)
			}
		}
		from = to
	}
	return all
}

// isTokenByte goes by the list of chapter 3.
func isTokenByte(c byte) bool {
	return c >= 'a' && c <= 'z' || c >= 'A' && c <= 'Z' || c >= '0' && c <= '9' || strings.IndexByte("!#$%&'*+-.^_|~`", c) >= 0
}

// P12.1: the parts between commas, in order, but empty ones.
func TestReadParts(t *testing.T) {
	wantWords(t, `max-age=60, content="ESI/1.0"`, "max-age", "60", "", "content", "ESI/1.0", "")
	wantWords(t, `content="ESI/1.0";a, content="x";b`, "content", "ESI/1.0", "a", "content", "x", "b")
	wantWords(t, "")
	wantWords(t, " ")
	wantWords(t, "\t \t")
	wantWords(t, ",")
	wantWords(t, ",,,")
	wantWords(t, " , ,\t,")
	wantWords(t, ",a=1", "a", "1", "")
	wantWords(t, ", ,a=1", "a", "1", "")
	wantWords(t, "a=1,,b=2", "a", "1", "", "b", "2", "")
	wantWords(t, "a=1, \t ,b=2", "a", "1", "", "b", "2", "")
	wantWords(t, "a=1,", "a", "1", "")
	wantWords(t, "a=1, ,", "a", "1", "")
	wantWords(t, ",a=1,,b=2,", "a", "1", "", "b", "2", "")
	wantWords(t, "b,a,c", "b", "", "", "a", "", "", "c", "", "")
	wantWords(t, "a=1,a=2,a=1,a;d,A=3", "a", "1", "", "a", "2", "", "a", "1", "", "a", "", "d", "a", "3", "")
	wantWords(t, `a="1,2",b="3"`, "a", "1,2", "", "b", "3", "")
	wantWords(t, `a=",,",,b=","`, "a", ",,", "", "b", ",", "")
}

// P12.1: blanks and bytes 9 are taken off a name, a value and a device, at both ends, and stay within quotes.
func TestReadTrimmed(t *testing.T) {
	for _, blank := range []string{" ", "\t", "  ", "\t\t", " \t ", "\t \t"} {
		for _, ahead := range []string{"", blank} {
			for _, behind := range []string{"", blank} {
				around := func(s string) string { return ahead + s + behind }
				wantWords(t, around("a"), "a", "", "")
				wantWords(t, around("a")+"=1", "a", "1", "")
				wantWords(t, "a="+around("1"), "a", "1", "")
				wantWords(t, "a="+around(`"1"`), "a", "1", "")
				wantWords(t, "a="+around(`"`+around("1")+`"`), "a", around("1"), "")
				wantWords(t, around("a")+";d", "a", "", "d")
				wantWords(t, "a=1;"+around("d"), "a", "1", "d")
				wantWords(t, "a="+around("1")+";d", "a", "1", "d")
				wantWords(t, around("a")+"="+around(`"1"`)+";"+around("d")+","+around("b")+";"+around("d")+","+around("c")+"="+around("1"),
					"a", "1", "d", "b", "", "d", "c", "1", "")
			}
		}
	}
	for c := range 256 {
		b := string([]byte{byte(c)})
		if b == " " || b == "\t" || b == "," || isTokenByte(byte(c)) {
			continue
		}
		wantWrong(t, b+"a")
		if b != ";" {
			wantWrong(t, b+"a=1")
			wantWrong(t, "a"+b+"=1")
			wantWrong(t, "a=1"+b)
			wantWrong(t, "a="+b+"1")
			wantWrong(t, "a=1;"+b+"d")
			wantWrong(t, "a=1;d"+b)
		}
	}
}

// P12.1: a name is a token, in small letters then.
func TestReadNames(t *testing.T) {
	wantWords(t, "CONTENT=1", "content", "1", "")
	wantWords(t, "Max-Age=1;D", "max-age", "1", "D")
	wantWords(t, "AZaz09", "azaz09", "", "")
	wantWords(t, "A;d,B=2,c", "a", "", "d", "b", "2", "", "c", "", "")
	wantWords(t, "!#$%&'*+-.^_|~`=1", "!#$%&'*+-.^_|~`", "1", "")
	for _, s := range []string{
		"=", "=1", " =1", "\t=1", `="1"`, "=1;d", "=;d", ";", ";d", " ;d", `""`, `""=1`, `"a"`, `"a"=1`, `"a";d`, `"A"=1`,
		"a b", "a b=1", "a\tb=1", "a b;d", "a/b=1", "a:b=1", "(a)=1", "a@=1", "[a]=1", "{a}=1", "<a>=1", "a?=1", `\a=1`, `a\=1`,
		`a""=1`, `""a=1`, `a"b"=1`, `a"b"c=1`, `"="=1`, `"=1"`, "\xe4=1", "a\xc3\xa4=1", "a\x00=1", "a\x7f=1", "\x80", "\xff",
	} {
		wantWrong(t, s)
	}
	for c := range 256 {
		b := string([]byte{byte(c)})
		if isTokenByte(byte(c)) {
			low := b
			if c >= 'A' && c <= 'Z' {
				low = string([]byte{byte(c + 32)})
			}
			wantWords(t, b, low, "", "")
			wantWords(t, "x"+b+"Y=1", "x"+low+"y", "1", "")
		} else if !strings.Contains(",;=", b) {
			wantWrong(t, "x"+b+"y")
			wantWrong(t, "x"+b+"y=1")
			wantWrong(t, "x"+b+"y;d")
		}
	}
}

// P12.1: the value stands behind the first =, and is a token or quoted, and nothing more; without = there is none.
func TestReadValues(t *testing.T) {
	wantWords(t, "no-store", "no-store", "", "")
	wantWords(t, "a=1", "a", "1", "")
	wantWords(t, "a=AbC", "a", "AbC", "")
	wantWords(t, `a="AbC"`, "a", "AbC", "")
	wantWords(t, "a=!#$%&'*+-.^_|~`", "a", "!#$%&'*+-.^_|~`", "")
	wantWords(t, `a=""`, "a", "", "")
	wantWords(t, `a="";d`, "a", "", "d")
	wantWords(t, `a=" "`, "a", " ", "")
	wantWords(t, "a=\" \t1\t \"", "a", " \t1\t ", "")
	wantWords(t, `a="1 2"`, "a", "1 2", "")
	wantWords(t, `a="=";d`, "a", "=", "d")
	wantWords(t, `a="b=c"`, "a", "b=c", "")
	wantWords(t, `a="=="`, "a", "==", "")
	wantWords(t, `a=","`, "a", ",", "")
	wantWords(t, `a=";"`, "a", ";", "")
	wantWords(t, `a=";;";d`, "a", ";;", "d")
	wantWords(t, `a=",;=,;=";d,b`, "a", ",;=,;=", "d", "b", "", "")
	wantWords(t, `a="\""`, "a", `"`, "")
	wantWords(t, `a="\\"`, "a", `\`, "")
	wantWords(t, `a="\\\""`, "a", `\"`, "")
	wantWords(t, `a="\a\,\;\=";d`, "a", "a,;=", "d")
	wantWords(t, `a="x\",y\";z\"=";d`, "a", `x",y";z"=`, "d")
	wantWords(t, `a="\\";d,b="2"`, "a", `\`, "d", "b", "2", "")
	wantWords(t, "a=\"\xe4\xff\x80\"", "a", "\xe4\xff\x80", "")
	for _, s := range []string{
		"a=", "a= ", "a=\t", "a=;d", "a= ;d", "a==", "a==1", "a=1=", "a=1=2", "a=b=c=d", `a=="1"`, `a="1"=`, `a="1"=2`, `a="1"="2"`, `a=1="2"`,
		`a="`, `a="1`, `a="1\"`, `a="\`, `a="1;d`, `a="1,b`, `a="""`, `a="1""`, `a=1"`, `a=\"1"`, `a="1"",b`, `a="1\\"",b`,
		`a=x"1"`, `a="1"x`, `a=x "1"`, `a="1" x`, `a="1"\`, `a=\"1"x"`, `a="1""2"`, `a="1" "2"`, `a=""""`, `a='1"2"'`,
		"a=1 2", "a=1\t2", "a=1/2", "a=ESI/1.0", "a=(1)", "a=1:2", "a=@", `a=\`, `a=\1`, "a=\xe4", "a=1\x00", "a=\x7f1",
		"a=\"\x00\"", "a=\"1\x1f\"", "a=\"\n\"", "a=\"\r\"", "a=\"\x7f\"", "a=\"\\\x00\"", "a=\"\\\n\"", "a=\"\\\x7f\"",
	} {
		wantWrong(t, s)
	}
}

// P12.1: each byte in a value, outside of quotes, within them, and behind a \ there.
func TestReadEachByteOfValues(t *testing.T) {
	for c := range 256 {
		b := string([]byte{byte(c)})
		if isTokenByte(byte(c)) {
			wantWords(t, "a=1"+b+"2", "a", "1"+b+"2", "")
			wantWords(t, "a="+b, "a", b, "")
		} else if b != "," && b != ";" {
			wantWrong(t, "a=1"+b+"2")
			wantWrong(t, "a="+b)
		}
		if c < 32 && c != 9 || c == 127 {
			wantWrong(t, `a="1`+b+`2"`)
			wantWrong(t, `a="1\`+b+`2"`)
			continue
		}
		wantWords(t, `a="1\`+b+`2"`, "a", "1"+b+"2", "")
		switch b {
		case `"`:
			wantWrong(t, `a="1`+b+`2"`)
		case `\`:
			wantWords(t, `a="1`+b+`2"`, "a", "12", "")
		default:
			wantWords(t, `a="1`+b+`2"`, "a", "1"+b+"2", "")
		}
	}
}

// P12.1: behind a ; outside of quotes, of which there is at most one, stands a device, a token, that stays as it is.
func TestReadDevices(t *testing.T) {
	wantWords(t, "a=1;d", "a", "1", "d")
	wantWords(t, `a="1";d`, "a", "1", "d")
	wantWords(t, "a;d", "a", "", "d")
	wantWords(t, "a;D,A;d", "a", "", "D", "a", "", "d")
	wantWords(t, "a;0", "a", "", "0")
	wantWords(t, "a;!#$%&'*+-.^_|~`", "a", "", "!#$%&'*+-.^_|~`")
	wantWords(t, `a="x;y"`, "a", "x;y", "")
	wantWords(t, `a="x;y";d`, "a", "x;y", "d")
	wantWords(t, `a="x\";y";d`, "a", `x";y`, "d")
	for _, s := range []string{
		"a;", "a; ", "a;\t", "a=1;", `a="1";`, "a;,b", "a=1;,", "a;d;", "a;;d", "a;d;e", "a=1;d;e", "a=1;d;", "a=1;;d", "a=1;;", `a="1";d;e`, "a;d;d",
		`a;"d"`, `a=1;"d"`, `a=1;""`, `a="1";"d"`, `a=1;d"e"`, `a=1;"d`, `a=1;d"`, `a=1;d";e"`, `a=1;";"`,
		"a=1;d e", "a=1;d\te", "a=1;d/e", "a=1;d=", "a=1;d=2", "a=1;=2", "a=1;=", "a;d=2", "a;b=c", `a;b="c"`, `a=1;d="2"`, "a=1;(d)", `a=1;\d`, `a=1;d\`,
		"a=1;\xe4", "a=1;d\x00", "a=1;\x7f",
	} {
		wantWrong(t, s)
	}
	for c := range 256 {
		b := string([]byte{byte(c)})
		if isTokenByte(byte(c)) {
			wantWords(t, "a=1;x"+b+"y", "a", "1", "x"+b+"y")
			wantWords(t, "a;"+b, "a", "", b)
		} else if b != "," {
			wantWrong(t, "a=1;x"+b+"y")
			wantWrong(t, "a;"+b)
		}
	}
}

// P12.1, R2: one part that is wrong makes all of it ErrText, wherever it stands, with no words beside it.
func TestReadOneWrongPart(t *testing.T) {
	for _, wrong := range []string{"=1", "a b", "a=", "a=1 2", "a=1=2", `a="1"x`, `a=x"1"`, "a;", "a;b c", "a;b;c", `"a"=1`, `a;"b"`, "a=\"\x01\"", ";", "=", `\`} {
		wantWrong(t, wrong)
		wantWrong(t, wrong+",b=2")
		wantWrong(t, "b=2,"+wrong)
		wantWrong(t, "b=2, "+wrong+" ,c=\"3\";d")
		wantWrong(t, ",b,c,,"+wrong+",,")
	}
	wantWrong(t, `b=2,a="1`)
	wantWrong(t, `a="1,b=2`)
	wantWrong(t, `b="2",a="1\"`)
	wantWrong(t, `"`)
	wantWrong(t, `,"`)
	wantWrong(t, `",`)
}

const (
	tokenForm  = "[!#$%&'*+.^_|~`0-9A-Za-z-]+"
	quotedForm = `"(?:[^"\\\x00-\x08\x0a-\x1f\x7f]|\\[^\x00-\x08\x0a-\x1f\x7f])*"`
	blankForm  = `[ \t]*`
)

// partForm is a part, or none, with what ends it.
func partForm() *regexp.Regexp {
	around := func(s string) string { return blankForm + "(" + s + ")" + blankForm }
	part := around(tokenForm) + "(?:=" + around(tokenForm+"|"+quotedForm) + ")?(?:;" + around(tokenForm) + ")?"
	return regexp.MustCompile("^(?:" + part + "|" + blankForm + ")(,|$)")
}

// modelRead has a pattern cut part by part off the text.
func modelRead(form *regexp.Regexp, s string) ([]api.Word, api.Errno) {
	var l []api.Word
	for {
		m := form.FindStringSubmatch(s)
		if m == nil {
			return nil, api.ErrText
		}
		value := m[2]
		if strings.HasPrefix(value, `"`) {
			var plain []byte
			for i := 1; i < len(value)-1; i++ {
				if value[i] == '\\' {
					i++
				}
				plain = append(plain, value[i])
			}
			value = string(plain)
		}
		if m[1] != "" {
			l = append(l, api.Word{Name: strings.ToLower(m[1]), Value: value, Device: m[3]})
		}
		if m[4] == "" {
			return l, api.OK
		}
		s = s[len(m[0]):]
	}
}

// P12.1: all short texts of the bytes and parts that matter.
func TestReadModel(t *testing.T) {
	form := partForm()
	all := joinedTexts([]string{"A", "=", ";", ",", `"`, `\`, " "}, 6)
	all = append(all, joinedTexts([]string{"a", `="`, `"`, ";b", ",", "=\t", ";", `\"`, "\n"}, 5)...)
	all = append(all, joinedTexts([]string{`a="x;`, `a=b`, `="`, `;`, `"`, " ,", ` ; d`}, 6)...)
	well := 0
	for _, s := range all {
		got, bad := Read(s)
		want, wantBad := modelRead(form, s)
		if bad != wantBad || !slices.Equal(got, want) {
			t.Fatalf("Read(%q) = %q, %d; want %q, %d", s, got, bad, want, wantBad)
		}
		if len(want) > 0 {
			well++
		}
	}
	if well < 1000 {
		t.Errorf("of the texts only %d have words", well)
	}
}

// P12.2: a field that is not read asks for nothing.
func TestAsksWhatIsNotRead(t *testing.T) {
	wantAsks(t, `content="ESI/1.0"`, "a", true)
	wantAsks(t, `,content="ESI/1.0",,no-store,`, "a", true)
	wantAsks(t, `content="ESI/1.0`, "a", false)
	for _, wrong := range []string{"=", "x=", "x y", "x;", "x;a;b", `x="`, "x=1 2"} {
		wantAsks(t, `content="ESI/1.0",`+wrong, "a", false)
		wantAsks(t, wrong+`,content="ESI/1.0"`, "a", false)
		wantAsks(t, `content="ESI/1.0";a,`+wrong, "a", false)
	}
	wantAsks(t, "content=ESI/1.0", "a", false)
	wantAsks(t, `content="ESI/1.0"x`, "a", false)
	wantAsks(t, `content="ESI/1.0";a;b`, "a", false)
}

// P12.2: the content that counts must be there, and is told in any letters.
func TestAsksContent(t *testing.T) {
	wantAsks(t, "", "a", false)
	wantAsks(t, ",", "a", false)
	wantAsks(t, "max-age=60", "a", false)
	wantAsks(t, `max-age=60, content="ESI/1.0"`, "a", true)
	wantAsks(t, `content="ESI/1.0", max-age=60`, "a", true)
	wantAsks(t, `CONTENT="ESI/1.0"`, "a", true)
	wantAsks(t, `Content = "ESI/1.0"`, "a", true)
	wantAsks(t, "content", "a", false)
	wantAsks(t, "content;a", "a", false)
	wantAsks(t, `content=""`, "a", false)
	wantAsks(t, "content=ESI", "a", false)
	wantAsks(t, `contents="ESI/1.0"`, "a", false)
	wantAsks(t, `conten="ESI/1.0"`, "a", false)
	wantAsks(t, `x-content="ESI/1.0"`, "a", false)
	wantAsks(t, `max-age="ESI/1.0"`, "a", false)
	wantAsks(t, `max-age="ESI/1.0", content="x"`, "a", false)
	wantAsks(t, `content="x", max-age="ESI/1.0"`, "a", false)
	wantAsks(t, `content="ESI/1.0", contents="x"`, "a", true)
}

// P12.2: one of the words of its Value, parted by blanks, is ESI/1.0.
func TestAsksWords(t *testing.T) {
	for _, value := range []string{
		"ESI/1.0", " ESI/1.0", "ESI/1.0 ", "  ESI/1.0  ", "x ESI/1.0", "ESI/1.0 x", "x ESI/1.0 y", "x   ESI/1.0   y", "x y ESI/1.0", "ESI/1.0 x y",
		"ESI/1.0 ESI/1.0", "ESI/1.1 ESI/1.0", "esi/1.0 ESI/1.0", `E\SI/1.0`, `\E\S\I\/\1\.\0`, "x\ty ESI/1.0", "ESI/1.0 x,y;z=",
	} {
		wantAsks(t, `content="`+value+`"`, "a", true)
		wantAsks(t, `content="`+value+`";a`, "a", true)
	}
	for _, value := range []string{
		"", " ", "x", "ESI", "ESI/1", "ESI/1.", "SI/1.0", "ESI/1.00", "ESI/1.0x", "xESI/1.0", "xESI/1.0x", "ESI/1.0ESI/1.0", "ESI/1.0,", "ESI/1.0;", "ESI/1.0-", "ESI/1.0/",
		"esi/1.0", "Esi/1.0", "ESi/1.0", "ESI /1.0", "ESI/ 1.0", "ESI/1 .0", "ESI/1.1", "ESI/10", "ESI1.0", "ESI-1.0", "ESI/1,0", "ESI/1.0,x", "x,ESI/1.0", `\"ESI/1.0\"`, `\\ESI/1.0`, `ESI\\/1.0`,
	} {
		wantAsks(t, `content="`+value+`"`, "a", false)
		wantAsks(t, `content="`+value+`";a`, "a", false)
	}
}

// P12.2: a blank is the byte 32 alone, as in chapter 3: a byte 9 belongs to a word.
func TestAsksOtherBytesWithinWords(t *testing.T) {
	for c := range 256 {
		if c < 32 && c != 9 || c == 127 {
			continue
		}
		b := `\` + string([]byte{byte(c)})
		for _, value := range []string{"x" + b + "ESI/1.0", "ESI/1.0" + b + "x", b + "ESI/1.0", "ESI/1.0" + b, "x " + b + "ESI/1.0" + b + " y"} {
			wantAsks(t, `content="`+value+`"`, "a", c == ' ')
		}
	}
	wantAsks(t, "content=\"x\tESI/1.0\"", "a", false)
	wantAsks(t, "content=\"ESI/1.0\t\"", "a", false)
	wantAsks(t, "content=\t\"ESI/1.0\"\t", "a", true)
}

// P12.2: of several, the last one that names the device counts; if there is none, the last one that names none.
func TestAsksSeveral(t *testing.T) {
	const yes, no = `content="ESI/1.0"`, `content="x"`
	wantAsks(t, `content="ESI/1.0";a, content="x";b`, "a", true)
	wantAsks(t, `content="ESI/1.0";a, content="x";b`, "b", false)
	wantAsks(t, `content="ESI/1.0";a, content="x";b`, "c", false)
	for _, one := range []struct {
		s    string
		want bool
	}{
		{yes + ";a", true}, {no + ";a", false}, {yes, true}, {no, false},
		{yes + ";a," + no, true}, {no + "," + yes + ";a", true},
		{no + ";a," + yes, false}, {yes + "," + no + ";a", false},
		{yes + "," + no, false}, {no + "," + yes, true}, {yes + "," + no + "," + yes, true},
		{yes + ";a," + no + ";a", false}, {no + ";a," + yes + ";a", true}, {no + ";a," + yes + ";a," + no, true},
		{yes + ";b", false}, {yes + ";b," + no, false}, {no + "," + yes + ";b", false}, {no + ";b," + yes, true}, {yes + "," + no + ";b", true},
		{no + ";a," + yes + ";b", false}, {yes + ";b," + no + ";a", false}, {yes + ";a," + no + ";b", true}, {no + ";b," + yes + ";a", true},
		{yes + ";A", false}, {no + ";A," + yes + ";a", true}, {yes + ";a," + no + ";A", true}, {no + ";a," + yes + ";A", false},
		{yes + ";aa", false}, {yes + ";a.", false}, {yes + ", content;a", false}, {yes + ",content", false}, {"content," + yes, true}, {"content;a," + yes, false},
		{"content;b," + yes, true}, {"Content=\"x\";a,CONTENT=\"ESI/1.0\";a", true}, {"other=\"ESI/1.0\";a," + no, false}, {"other=x;a," + yes, true},
	} {
		wantAsks(t, one.s, "a", one.want)
	}
}

// P12.2: a device is told byte by byte; for an empty one, and for one that is no token, those that name none count.
func TestAsksDevices(t *testing.T) {
	const yes, no = `content="ESI/1.0"`, `content="x"`
	for _, device := range []string{"", " ", "a b", `"a"`, " a", "a ", "a\t", "A", "aa", "b", "\x00", "\xff", "a;a", ","} {
		wantAsks(t, yes, device, true)
		wantAsks(t, no, device, false)
		wantAsks(t, yes+";a", device, false)
		wantAsks(t, yes+","+no+";a", device, true)
		wantAsks(t, no+","+yes+";a", device, false)
		wantAsks(t, yes+","+no, device, false)
		wantAsks(t, "", device, false)
	}
	wantAsks(t, yes+";A", "A", true)
	wantAsks(t, yes+";AbC", "abc", false)
	wantAsks(t, yes+";AbC", "AbC", true)
	wantAsks(t, yes+"; a ", "a", true)
	wantAsks(t, yes+";!#$%&'*+-.^_|~`", "!#$%&'*+-.^_|~`", true)
}

// modelAsks lets each content be what counts, unless a later one, or one that names the device, is there.
func modelAsks(words []api.Word, device string) bool {
	var named, none []bool
	for _, w := range words {
		if w.Name != "content" {
			continue
		}
		asks := strings.Contains(" "+w.Value+" ", " ESI/1.0 ")
		if w.Device == "" {
			none = append(none, asks)
		} else if w.Device == device {
			named = append(named, asks)
		}
	}
	all := append(none, named...)
	return len(all) > 0 && all[len(all)-1]
}

// P12.2: all rows of up to five of the parts that matter.
func TestAsksModel(t *testing.T) {
	form := partForm()
	for _, s := range joinedTexts([]string{`content="ESI/1.0",`, `content="x",`, `content="y ESI/1.0";a,`, "Content;a,", `content="ESI/1.0";b,`, "content=x;A,", `other="ESI/1.0",`}, 5) {
		words, bad := modelRead(form, s)
		if bad != api.OK {
			t.Fatalf("%q is not read", s)
		}
		for _, device := range []string{"a", "b", "A", "c", ""} {
			wantAsks(t, s, device, modelAsks(words, device))
		}
	}
}

// P12.3: the device is a token; what it can stands behind others, trimmed, a comma and a blank, if those are not empty.
func TestCan(t *testing.T) {
	wantCan(t, "", "a", `a="ESI/1.0"`, api.OK)
	wantCan(t, "", "AbC", `AbC="ESI/1.0"`, api.OK)
	wantCan(t, "", "!#$%&'*+-.^_|~`", "!#$%&'*+-.^_|~`=\"ESI/1.0\"", api.OK)
	wantCan(t, `b="x"`, "a", `b="x", a="ESI/1.0"`, api.OK)
	wantCan(t, ` b="x" `, "a", `b="x", a="ESI/1.0"`, api.OK)
	wantCan(t, "\t b=\"x\"\t\t", "a", `b="x", a="ESI/1.0"`, api.OK)
	wantCan(t, `b="x" , c="y"`, "a", `b="x" , c="y", a="ESI/1.0"`, api.OK)
	wantCan(t, `a="ESI/1.0"`, "a", `a="ESI/1.0", a="ESI/1.0"`, api.OK)
	wantCan(t, `b="x",`, "a", `b="x",, a="ESI/1.0"`, api.OK)
	for _, blanks := range []string{" ", "\t", "  ", " \t \t"} {
		wantCan(t, blanks, "a", `a="ESI/1.0"`, api.OK)
	}
	for _, others := range []string{"x", "=", ",", `"`, `\`, ";", "\n", "\x00", "\xff", "no list at all"} {
		wantCan(t, others, "a", others+`, a="ESI/1.0"`, api.OK)
		wantCan(t, " "+others+"\t", "a", others+`, a="ESI/1.0"`, api.OK)
	}
}

// P12.3, R2: ErrText, if the device is no token, with no text beside it.
func TestCanOfNoToken(t *testing.T) {
	for _, device := range []string{"", " ", "a b", " a", "a ", "\ta", `"a"`, `""`, "a/b", "a,b", "a;b", "a=b", `a\`, "\x00", "a\x7f", "\xe4", "a\n"} {
		for _, others := range []string{"", " ", `b="x"`, `"`} {
			wantCan(t, others, device, "", api.ErrText)
		}
	}
	for c := range 256 {
		device := string([]byte{byte(c)})
		if isTokenByte(byte(c)) {
			wantCan(t, "", device, device+`="ESI/1.0"`, api.OK)
			wantCan(t, "b", "x"+device, "b, x"+device+`="ESI/1.0"`, api.OK)
		} else {
			wantCan(t, "", device, "", api.ErrText)
			wantCan(t, "b", "x"+device+"y", "", api.ErrText)
		}
	}
}

// writtenWords are words in the forms that they are written in.
func writtenWords(t *testing.T) (forms []string, words []api.Word) {
	t.Helper()
	var every []byte
	for c := range 256 {
		if c >= 32 && c != 127 || c == 9 {
			every = append(every, byte(c))
		}
	}
	for _, name := range []string{"a", "max-age", "content", "0.9!~`"} {
		for _, device := range []string{"", "d", "D", "|x|"} {
			behind := ""
			if device != "" {
				behind = ";" + device
			}
			forms = append(forms, name+behind)
			words = append(words, row(name, "", device)...)
			for _, value := range []string{"60", "a", "!~"} {
				forms = append(forms, name+"="+value+behind)
				words = append(words, row(name, value, device)...)
			}
			for _, value := range []string{"", "60", " ", " a ", "a,b;c=d", `"`, `\`, `\"`, "ESI/1.0", string(every)} {
				quoted, bad := text.Quote(value)
				if bad != api.OK {
					t.Fatalf("%q cannot be quoted", value)
				}
				forms = append(forms, name+"="+quoted+behind)
				words = append(words, row(name, value, device)...)
			}
		}
	}
	return forms, words
}

// P12.4: parts that are written so, with a device or without, are read as they are.
func TestWrittenIsRead(t *testing.T) {
	forms, words := writtenWords(t)
	for i, form := range forms {
		for j, other := range forms {
			got, bad := Read(form + ", " + other)
			if bad != api.OK || !slices.Equal(got, []api.Word{words[i], words[j]}) {
				t.Fatalf("%q and %q are read as %q, %d", form, other, got, bad)
			}
		}
	}
	for _, by := range []string{",", ", ", " ,\t", ",,"} {
		if got, bad := Read(strings.Join(forms, by)); bad != api.OK || !slices.Equal(got, words) {
			t.Errorf("all of them, parted by %q, are read as %.200q, %d", by, got, bad)
		}
	}
}

// P12.3, P12.4: what a device says that it can is read as its name and value.
func TestCanIsRead(t *testing.T) {
	s := ""
	var want []api.Word
	for _, device := range []string{"a", "b.c", "0", "a"} {
		s, _ = Can(s, device)
		want = append(want, row(device, "ESI/1.0", "")...)
		if got, bad := Read(s); bad != api.OK || !slices.Equal(got, want) {
			t.Errorf("Read(%q) = %q, %d; want %q", s, got, bad, want)
		}
	}
}

// P12.4: what names another device changes nothing for one, wherever it stands.
func TestOtherDevices(t *testing.T) {
	parts := []string{`content="ESI/1.0"`, `content="x"`, `content="ESI/1.0";a`, "content;a", "max-age=60"}
	others := []string{`content="ESI/1.0";b`, `content="x";b`, "content;A", `content="ESI/1.0";A`, "x=1;aa"}
	for _, s := range joinedTexts([]string{"0", "1", "2", "3", "4"}, 3) {
		var l []string
		for _, c := range s {
			l = append(l, parts[c-'0'])
		}
		want := Asks(strings.Join(l, ","), "a")
		for _, other := range others {
			for at := range len(l) + 1 {
				wantAsks(t, strings.Join(slices.Insert(slices.Clone(l), at, other), ","), "a", want)
			}
		}
	}
}

// R1: no call keeps anything, and its answers share no memory with one another.
func TestAnswersAlone(t *testing.T) {
	const s = `max-age=60, content="ESI/1.0";a`
	want := row("max-age", "60", "", "content", "ESI/1.0", "a")
	for range 2 {
		got, bad := Read(s)
		if bad != api.OK || !slices.Equal(got, want) {
			t.Fatalf("Read(%q) = %q, %d", s, got, bad)
		}
		wantAsks(t, s, "a", true)
		wantAsks(t, s, "b", false)
		wantCan(t, "x", "a", `x, a="ESI/1.0"`, api.OK)
		clear(got[:cap(got)])
	}
}

// P1: every call ends at great texts of few and of many parts.
func TestGreatTexts(t *testing.T) {
	const many = 1 << 17
	for _, piece := range []string{",", ";", "=", `"`, `\`, " ", "a", "a,", "a;d,", "a=1,", `a="1";d,`, `content="ESI/1.0";b,`, `a="\";`, `""`, "a=1 2,", "\x00"} {
		s := strings.Repeat(piece, many)
		Read(s)
		Asks(s, "a")
		Asks(s, s)
		Can(s, "a")
		Can("", s)
	}
	if got, bad := Read(strings.Repeat("a=1;d,", many)); len(got) != many || bad != api.OK {
		t.Errorf("of %d words %d are read, %d", many, len(got), bad)
	}
	wantAsks(t, `content="ESI/1.0",`+strings.Repeat(`content="x";b,`, many), "a", true)
	wantAsks(t, `content="`+strings.Repeat("x ", many)+`ESI/1.0"`, "a", true)
}
