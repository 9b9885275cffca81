package rules

import (
	"slices"

	"levy/api"
)

// A rate of a whole, in millionths.
const millionths = 1000000

func (r *reader) pack() api.Pack {
	r.taken = make(map[string]struct{})
	r.want("pack")
	p := api.Pack{Name: r.wantName().Text}
	p.Year = int(r.wantKind(api.TokenCount).Num)
	r.lineEnd()
	for !r.atEnd() {
		r.item(&p)
	}
	return p
}

func (r *reader) item(p *api.Pack) {
	switch {
	case r.takes("options"):
		p.Options = append(p.Options, r.options())
	case r.takes("table"):
		p.Tables = append(p.Tables, r.table())
	case r.takes("group"):
		p.Groups = append(p.Groups, r.group())
	case r.takes("input"):
		p.Lines = append(p.Lines, r.line(true))
	case r.takes("line"):
		l := r.line(false)
		l.Clauses = r.clauses()
		p.Lines = append(p.Lines, l)
	case r.takes("check"):
		p.Checks = append(p.Checks, r.check())
	default:
		panic(r.unfit())
	}
}

// wantNew takes an item's name, which no item ahead of it may have.
func (r *reader) wantNew() string {
	t := r.wantName()
	if _, ok := r.taken[t.Text]; ok {
		panic(r.fault(t, api.ErrRulesTwice))
	}
	r.taken[t.Text] = struct{}{}
	return t.Text
}

func (r *reader) options() api.Options {
	o := api.Options{Name: r.wantNew()}
	r.want(":")
	for first := true; first || r.takes(","); first = false {
		t := r.wantName()
		if slices.Contains(o.Names, t.Text) {
			panic(r.fault(t, api.ErrRulesTwice))
		}
		o.Names = append(o.Names, t.Text)
	}
	r.lineEnd()
	return o
}

func (r *reader) table() api.Table {
	t := api.Table{Name: r.wantNew()}
	r.want(":")
	for first := true; first || r.takes(","); first = false {
		from := r.wantSigned(api.TokenAmount)
		t.Bands = append(t.Bands, api.Band{From: from, Rate: r.rate()})
	}
	r.lineEnd()
	return t
}

func (r *reader) rate() int64 {
	opposite := r.takes("-")
	t := r.wantKind(api.TokenPercent)
	rate := t.Num * millionths
	if rate%t.Den != 0 {
		panic(r.fault(t, api.ErrRulesNumber))
	}
	if opposite {
		rate = -rate
	}
	return rate / t.Den
}

func (r *reader) group() api.Group {
	g := api.Group{Name: r.wantNew()}
	g.Rows = int(r.wantKind(api.TokenCount).Num)
	r.lineEnd()
	return g
}

// line reads what inputs and lines have alike.
func (r *reader) line(input bool) api.Line {
	l := api.Line{Name: r.wantNew(), Input: input}
	l.Type, l.Options = r.lineType()
	l.Group = r.inGroup()
	l.Must = r.takes("must")
	r.lineEnd()
	return l
}

func (r *reader) lineType() (kind, options int) {
	switch {
	case r.takes("cents"):
		return api.Cents, -1
	case r.takes("count"):
		return api.Count, -1
	case r.takes("flag"):
		return api.Flag, -1
	case r.takes("day"):
		return api.Day, -1
	}
	return api.Choice, r.wantKnown(r.names.options)
}

func (r *reader) inGroup() int {
	if r.takes("in") {
		return r.wantKnown(r.names.groups)
	}
	return -1
}

func (r *reader) clauses() []api.Clause {
	var l []api.Clause
	for {
		var c api.Clause
		switch {
		case r.takes("at"):
			c.Priority, c.Guarded = int(r.wantKind(api.TokenCount).Num), true
			r.want("when")
			c.Guard = r.whole()
			r.want("is")
		case !r.takes("is"):
			return l
		}
		c.Body = r.whole()
		r.lineEnd()
		l = append(l, c)
	}
}

func (r *reader) check() api.Check {
	c := api.Check{Name: r.wantNew(), Hard: r.takes("hard")}
	c.Group = r.inGroup()
	c.Text = r.wantKind(api.TokenText).Text
	r.lineEnd()
	r.want("when")
	c.When = r.whole()
	r.lineEnd()
	return c
}
