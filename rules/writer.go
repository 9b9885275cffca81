package rules

import (
	"strconv"

	"levy/api"
	"levy/words"
)

// writer: a text that is being written. Its methods give up by a panic with api.ErrRulesPrint where there is no text; the face catches it. They needn't find all that has none: what is written is read again and held against what was to be written.
type writer struct {
	names api.Pack // whose names stand in the text
	text  []byte
	deep  int // how many expressions the writer is inside of
}

// put gives up as soon as the text is too long, so that no more is gone through than a text has room for.
func (w *writer) put(texts ...string) {
	for _, s := range texts {
		if len(s) > api.MaxRuleText-len(w.text) {
			panic(api.ErrRulesPrint)
		}
		w.text = append(w.text, s...)
	}
}

// at tells what stands at a place of a list, which need not be there.
func at[T any](l []T, n int64) T {
	if n < 0 || n >= int64(len(l)) {
		panic(api.ErrRulesPrint)
	}
	return l[n]
}

func (w *writer) pack(p api.Pack) {
	w.put("pack ", p.Name, " ", strconv.Itoa(p.Year), "\n")
	for _, o := range p.Options {
		w.options(o)
	}
	for _, t := range p.Tables {
		w.table(t)
	}
	for _, g := range p.Groups {
		w.put("group ", g.Name, " ", strconv.Itoa(g.Rows), "\n")
	}
	for _, l := range p.Lines {
		w.line(l)
	}
	for _, c := range p.Checks {
		w.check(c)
	}
}

func (w *writer) options(o api.Options) {
	w.put("options ", o.Name, ": ")
	for i, name := range o.Names {
		w.put(separator(i), name)
	}
	w.put("\n")
}

// separator is what stands ahead of an item of a list.
func separator(i int) string {
	if i == 0 {
		return ""
	}
	return ", "
}

func (w *writer) table(t api.Table) {
	w.put("table ", t.Name, ": ")
	for i, b := range t.Bands {
		w.put(separator(i), words.Amount(b.From), " ", rateText(b.Rate))
	}
	w.put("\n")
}

func (w *writer) line(l api.Line) {
	head := "line "
	if l.Input {
		head = "input "
	}
	w.put(head, l.Name, " ", w.typeText(l))
	w.inGroup(l.Group)
	if l.Must {
		w.put(" must")
	}
	w.put("\n")
	for _, c := range l.Clauses {
		w.clause(c)
	}
}

func (w *writer) typeText(l api.Line) string {
	switch l.Type {
	case api.Cents:
		return "cents"
	case api.Count:
		return "count"
	case api.Flag:
		return "flag"
	case api.Day:
		return "day"
	case api.Choice:
		return at(w.names.Options, int64(l.Options)).Name
	}
	panic(api.ErrRulesPrint)
}

func (w *writer) inGroup(group int) {
	if group != -1 {
		w.put(" in ", at(w.names.Groups, int64(group)).Name)
	}
}

func (w *writer) clause(c api.Clause) {
	w.put("  ")
	if c.Guarded {
		w.put("at ", strconv.Itoa(c.Priority), " when ")
		w.expr(c.Guard)
		w.put(" ")
	}
	w.put("is ")
	w.expr(c.Body)
	w.put("\n")
}

func (w *writer) check(c api.Check) {
	w.put("check ", c.Name)
	if c.Hard {
		w.put(" hard")
	}
	w.inGroup(c.Group)
	text, ok := words.Quote(c.Text)
	if !ok {
		panic(api.ErrRulesPrint)
	}
	w.put(" ", text, "\n  when ")
	w.expr(c.When)
	w.put("\n")
}
