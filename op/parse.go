package op

import (
	"strings"

	"shellgame/api"
	"shellgame/pack"
)

func Parse(s string) (Op, api.Errno) {
	r := reader{rest: s}
	o := Op{Kind: r.kind()}
	switch o.Kind {
	case Put:
		o.For = r.number()
		o.Value = r.word()
		fallthrough
	case Get, Peek, Delete:
		o.Key = r.word()
	}
	// The form first: a long text counts only in bytes that are an operation's.
	switch {
	case o.Kind == None, r.cut, r.rest != "":
		return Op{}, api.ErrForm
	case r.long:
		return Op{}, api.ErrLong
	}
	return o, api.OK
}

// reader takes parts of a text from its beginning: what is left; did it end too soon; was a part too long for a word?
type reader struct {
	rest      string
	cut, long bool
}

// kind is that of the next letter, or None.
func (r *reader) kind() int {
	// What is no letter stands at -1, just ahead of that of Get, as None does.
	return Get + strings.IndexByte(letters, byte(r.one()))
}

// number is that of the next two bytes, the lower one first.
func (r *reader) number() int {
	low := r.one()
	return low + 256*r.one()
}

// word is that of the next text, whose length stands ahead of it.
func (r *reader) word() uint64 {
	n, e := pack.Word(r.take(r.one()))
	if e != api.OK {
		r.long = true
	}
	return n
}

// one is the next byte, or 0.
func (r *reader) one() int {
	s := r.take(1)
	if s == "" {
		return 0
	}
	return int(s[0])
}

// take is the next bytes, or none if there are not so many.
func (r *reader) take(many int) string {
	if many > len(r.rest) {
		r.cut = true
		return ""
	}
	s := r.rest[:many]
	r.rest = r.rest[many:]
	return s
}
