package rules

import (
	"strings"

	"levy/api"
	"levy/words"
)

// reader: a text that is read from the left. Its methods give up by a panic with an *api.Misread, so that none of them hands errors on; the face catches it.
type reader struct {
	text   string
	tokens []api.Token
	next   int // which token is the next one
	names  names
	calls  map[string]call
	taken  map[string]struct{} // the items' names so far
}

func scanned(text string) []api.Token {
	tokens, at, e := words.Scan(text)
	if e != api.OK {
		panic(misreadAt(text, at, e))
	}
	return tokens
}

func misreadAt(text string, at int, e api.Errno) *api.Misread {
	ahead := text[:at]
	begin := strings.LastIndex(ahead, "\n") + 1
	return &api.Misread{Line: 1 + strings.Count(ahead, "\n"), At: at - begin, Err: e}
}

func (r *reader) fault(t api.Token, e api.Errno) *api.Misread { return misreadAt(r.text, t.At, e) }

// unfit is the fault of a next token that can't stand where it stands.
func (r *reader) unfit() *api.Misread {
	if r.atEnd() {
		return r.fault(r.peek(), api.ErrRulesEnd)
	}
	return r.fault(r.peek(), api.ErrRulesToken)
}

func (r *reader) atEnd() bool { return r.next == len(r.tokens) }

// tokenAt tells the token of a number; behind the last one stands one of no kind, at the text's end.
func (r *reader) tokenAt(n int) api.Token {
	if n >= len(r.tokens) {
		return api.Token{At: len(r.text)}
	}
	return r.tokens[n]
}

func (r *reader) peek() api.Token { return r.tokenAt(r.next) }

// is tells whether a token is a certain word or sign. (No word is a sign; but a quoted text may be either.)
func is(t api.Token, text string) bool {
	return (t.Kind == api.TokenName || t.Kind == api.TokenSign) && t.Text == text
}

func (r *reader) sees(text string) bool { return is(r.peek(), text) }

// takes passes a certain word or sign, if it is there.
func (r *reader) takes(text string) bool {
	there := r.sees(text)
	if there {
		r.next++
	}
	return there
}

func (r *reader) want(text string) {
	if !r.takes(text) {
		panic(r.unfit())
	}
}

func (r *reader) wantKind(kind int) api.Token {
	t := r.peek()
	if t.Kind != kind {
		panic(r.unfit())
	}
	r.next++
	return t
}

func (r *reader) wantName() api.Token {
	t := r.peek()
	if !isName(t) {
		panic(r.unfit())
	}
	r.next++
	return t
}

// wantKnown takes a name that is one of some, and tells its number.
func (r *reader) wantKnown(numbers map[string]int) int {
	t := r.wantName()
	n, ok := numbers[t.Text]
	if !ok {
		panic(r.fault(t, api.ErrRulesName))
	}
	return n
}

// wantSigned takes a number of some kind, or a - and one: then it is the opposite.
func (r *reader) wantSigned(kind int) int64 {
	if r.takes("-") {
		return -r.wantKind(kind).Num
	}
	return r.wantKind(kind).Num
}

func (r *reader) lineEnd() {
	if !r.atEnd() {
		r.wantKind(api.TokenEnd)
	}
}
