package lex

import (
	"strings"

	"intarsia/api"
)

// reader goes through a tag byte by byte. It panics where it can't go on: with an error, or with a cut.
type reader struct {
	bytes string
	at    int
}

// cut tells that the bytes end within a tag, which is no error as long as more may come.
type cut struct{}

// readTag reads the tag that bytes begin with, and tells how many bytes it has: 0, if they end ahead of its end.
func readTag(bytes string) (t api.Token, size int, bad api.Errno) {
	defer func() {
		switch why := recover().(type) {
		case nil:
		case cut:
		case api.Errno:
			bad = why
		default:
			// A fault of the program's own is not taken for one of the page.
			panic(why)
		}
	}()
	r := &reader{bytes: bytes}
	t = r.tag()
	return t, r.at, api.OK
}

func (r *reader) tag() api.Token {
	if strings.HasPrefix(r.bytes, closes) {
		r.at = len(closes)
		return r.closing()
	}
	r.at = len(opens)
	return r.opening()
}

func (r *reader) closing() api.Token {
	t := api.Token{Kind: api.TClose, Text: r.name()}
	r.blanks()
	r.must('>')
	return t
}

func (r *reader) opening() api.Token {
	t := api.Token{Kind: api.TOpen, Text: r.name()}
	for r.blanks() && isOfName(r.peek()) {
		t.Attrs = append(t.Attrs, r.attr(t.Attrs))
	}
	if r.peek() == '/' {
		t.Kind = api.TEmpty
		r.at++
	}
	r.must('>')
	return t
}

// attr reads an attribute behind others.
func (r *reader) attr(others []api.Pair) api.Pair {
	name := r.name()
	r.must('=')
	if len(others) == api.MaxAttrs || has(others, name) {
		panic(api.ErrAttr)
	}
	r.must('"')
	value := r.while(isOfValue)
	r.must('"')
	return api.Pair{Name: name, Value: value}
}

func (r *reader) name() string {
	name := r.while(isOfName)
	if name == "" {
		panic(api.ErrTag)
	}
	return name
}

// blanks goes past blanks, and tells whether there were any.
func (r *reader) blanks() bool { return r.while(isBlank) != "" }

func (r *reader) while(is func(byte) bool) string {
	from := r.at
	for is(r.peek()) {
		r.at++
	}
	return r.bytes[from:r.at]
}

func (r *reader) must(b byte) {
	if r.peek() != b {
		panic(api.ErrTag)
	}
	r.at++
}

// peek is the next byte. Whoever asks needs it, as a tag that is whole asks no more: so one too many is told whatever it is.
func (r *reader) peek() byte {
	if r.at == len(r.bytes) {
		panic(cut{})
	}
	if r.at == api.MaxTag {
		panic(api.ErrLong)
	}
	return r.bytes[r.at]
}

func has(attrs []api.Pair, name string) bool {
	for _, a := range attrs {
		if a.Name == name {
			return true
		}
	}
	return false
}

func isOfName(b byte) bool { return b >= 'a' && b <= 'z' || b == '-' }

func isOfValue(b byte) bool { return b != '"' && b != '<' && b != '>' }

func isBlank(b byte) bool { return b == ' ' || b == '\t' || b == '\n' || b == '\r' }
