package desk

import (
	"levy/api"
	"levy/types"
	"levy/words"
)

// Parse reads a line of a script.
func Parse(p api.Pack, line string) (api.Cmd, error) {
	tokens, at, errno := words.Scan(line)
	if errno != api.OK {
		return api.Cmd{}, misread(at, errno)
	}
	if ends(tokens) != 1 {
		return api.Cmd{}, misread(len(line), api.ErrRulesEnd)
	}
	r := &reader{pack: p, left: tokens[:len(tokens)-1], end: len(line)}
	c := r.command()
	if r.fault != nil {
		return api.Cmd{}, r.fault
	}
	return c, nil
}

// misread is the refusal of a script's line.
func misread(at int, errno api.Errno) *api.Misread {
	return &api.Misread{Line: 1, At: at, Err: errno}
}

// ends tells how many ends of lines there are.
func ends(tokens []api.Token) int {
	n := 0
	for _, t := range tokens {
		if t.Kind == api.TokenEnd {
			n++
		}
	}
	return n
}

// reader takes tokens from the left. Behind its first fault, which it keeps, it takes nothing more.
type reader struct {
	pack  api.Pack
	left  []api.Token // without the line's end
	end   int         // the number of the line's bytes
	fault *api.Misread
}

// refuse keeps a fault, if there is none ahead of it.
func (r *reader) refuse(at int, errno api.Errno) {
	if r.fault == nil {
		r.fault = misread(at, errno)
	}
}

// take takes the next token, which must be of this kind; a zero one, if it isn't.
func (r *reader) take(kind int) api.Token {
	switch {
	case r.fault != nil:
	case len(r.left) == 0:
		r.refuse(r.end, api.ErrRulesEnd)
	case r.left[0].Kind != kind:
		r.refuse(r.left[0].At, api.ErrRulesToken)
	default:
		t := r.left[0]
		r.left = r.left[1:]
		return t
	}
	return api.Token{}
}

// sees tells whether the next token is of this kind with this text.
func (r *reader) sees(kind int, text string) bool {
	return len(r.left) > 0 && r.left[0].Kind == kind && r.left[0].Text == text
}

// takes takes the next token, if it is of this kind with this text: whether it did.
func (r *reader) takes(kind int, text string) bool {
	ok := r.sees(kind, text)
	if ok {
		r.take(kind)
	}
	return ok
}

// word takes a certain word.
func (r *reader) word(text string) {
	t := r.take(api.TokenName)
	if t.Text != text {
		r.refuse(t.At, api.ErrRulesToken)
	}
}

func (r *reader) count() int { return int(r.take(api.TokenCount).Num) }

func (r *reader) name() string { return r.take(api.TokenName).Text }

// signed takes a number, with a sign ahead of it for the opposite, if there is one.
func (r *reader) signed(kind int) int64 {
	if r.takes(api.TokenSign, "-") {
		return -r.take(kind).Num
	}
	return r.take(kind).Num
}

// known takes a name that is looked up.
func (r *reader) known(number func(name string) int) int {
	t := r.take(api.TokenName)
	n := number(t.Text)
	if n < 0 {
		r.refuse(t.At, api.ErrRulesName)
	}
	return n
}

func (r *reader) line() int {
	return r.known(func(name string) int { return types.Line(r.pack, name) })
}

func (r *reader) group() int {
	return r.known(func(name string) int {
		for i, g := range r.pack.Groups {
			if g.Name == name {
				return i
			}
		}
		return -1
	})
}

// place takes a line, and, if it is of a group, a row.
func (r *reader) place() (line, row int) {
	line = r.line()
	if r.fault == nil && r.pack.Lines[line].Group >= 0 {
		row = r.count()
	}
	return line, row
}

// value takes a value for a line.
func (r *reader) value(l api.Line) api.Value {
	v := api.Value{Kind: l.Type}
	switch l.Type {
	case api.Cents:
		v.Num = r.signed(api.TokenAmount)
	case api.Count:
		v.Num = r.signed(api.TokenCount)
	case api.Flag:
		v.Num = r.truth()
	case api.Day:
		v.Num = r.take(api.TokenDate).Num
	case api.Choice:
		v.Num = int64(r.known(func(name string) int { return types.Option(r.pack, l.Options, name) }))
	default:
		r.take(0) // a line of no type has no value: whatever stands there can't
	}
	return v
}

func (r *reader) truth() int64 {
	if r.takes(api.TokenName, "yes") {
		return 1
	}
	r.word("no")
	return 0
}
