package rules

import "levy/api"

// call: an aggregate or a function, as it is written. takes has a letter for each argument: l the name of a line, b such a name, meant as a line's OpLine, g a group's, t a bracket table's, e an expression, r a ratio, a an amount, m a mode; + at its end: further expressions may follow.
type call struct {
	name  string
	op    int
	takes string
}

var calls = [...]call{
	{"sum", api.OpSum, "l"},
	{"least", api.OpLeast, "l"},
	{"greatest", api.OpGreatest, "l"},
	{"any", api.OpAny, "l"},
	{"all", api.OpAll, "l"},
	{"used", api.OpUsed, "g"},
	{"blank", api.OpIsBlank, "b"},
	{"min", api.OpMin, "ee+"},
	{"max", api.OpMax, "ee+"},
	{"abs", api.OpAbs, "e"},
	{"clamp", api.OpClamp, "eee"},
	{"scale", api.OpScale, "erm"},
	{"split", api.OpSplit, "eem"},
	{"round", api.OpRound, "eam"},
	{"bracket", api.OpBracket, "te"},
	{"either", api.OpElse, "ee"},
	{"year", api.OpYear, "e"},
	{"age", api.OpAge, "ee"},
	{"months", api.OpMonths, "ee"},
	{"days", api.OpDays, "ee"},
	{"addmonths", api.OpAddMonths, "ee"},
}

// The texts of the ways of rounding.
var modes = [...]string{api.Down: "down", api.Up: "up", api.Inward: "inward", api.HalfUp: "halfup", api.HalfEven: "halfeven"}

func callsByName() map[string]call {
	m := make(map[string]call)
	for _, c := range calls {
		m[c.name] = c
	}
	return m
}

func (r *reader) called() api.Expr {
	name := r.wantName()
	c, ok := r.calls[name.Text]
	if !ok {
		panic(r.fault(name, api.ErrRulesName))
	}
	r.want("(")
	e := api.Expr{Op: c.op}
	for i, letter := range c.takes {
		if i > 0 && letter != '+' {
			r.want(",")
		}
		r.argument(&e, letter)
	}
	r.want(")")
	return e
}

// argument reads what stands for a letter of a call's takes into the expression.
func (r *reader) argument(e *api.Expr, letter rune) {
	switch letter {
	case 'l':
		e.Num = int64(r.wantKnown(r.names.lines))
	case 'b':
		e.Args = append(e.Args, r.lineRef())
	case 'g':
		e.Num = int64(r.wantKnown(r.names.groups))
	case 't':
		e.Num = int64(r.wantKnown(r.names.tables))
	case 'e':
		e.Args = append(e.Args, r.expr())
	case '+':
		for r.sees(",") {
			e.Args = append(e.Args, r.oneMore(e.Args, r.expr))
		}
	case 'r':
		e.Num, e.Den = r.ratio()
	case 'a':
		e.Num = r.wantSigned(api.TokenAmount)
	case 'm':
		e.Mode = r.mode()
	}
}

func (r *reader) ratio() (num, den int64) {
	opposite := r.takes("-")
	if t := r.peek(); t.Kind == api.TokenPercent {
		r.next++
		num, den = t.Num, t.Den
	} else {
		num = r.wantKind(api.TokenCount).Num
		r.want("/")
		den = r.wantKind(api.TokenCount).Num
	}
	if opposite {
		num = -num
	}
	return num, den
}

func (r *reader) mode() int {
	for i, text := range modes {
		if r.takes(text) {
			return i
		}
	}
	panic(r.unfit())
}
