package desk

import (
	"strconv"
	"strings"

	"levy/api"
	"levy/curve"
	"levy/trace"
	"levy/words"
)

// The size of a picture of a curve.
const (
	pictureWide = 40
	pictureHigh = 8
)

func tellOK(p *play, _ api.Cmd, _ api.Reply) { p.line("ok") }

func tellRow(p *play, _ api.Cmd, r api.Reply) { p.line("row ", strconv.Itoa(r.Count)) }

func tellValue(p *play, c api.Cmd, r api.Reply) {
	cell, _ := p.form.cell(c.Line, c.Row)
	p.line(p.form.valueText(cell, r.Val))
}

func tellCells(p *play, _ api.Cmd, r api.Reply) {
	for i, v := range r.Vals {
		place, _ := p.form.graph.Place(i)
		if place.Kind == api.PlaceLine && p.form.shown(place, r.Vals) {
			p.line(p.form.placeText(place), " ", p.form.valueText(uint32(i), v))
		}
	}
}

// shown tells whether a line's cell is one of a row that is used, or of no row.
func (f *form) shown(place api.Place, vals []api.Value) bool {
	flag, inRow := f.flag(f.pack.Lines[place.Index].Group, place.Row)
	return !inRow || vals[flag] == api.Value{Kind: api.Flag, Num: 1}
}

func tellChanges(p *play, _ api.Cmd, r api.Reply) {
	for _, c := range r.Changes {
		p.line(p.form.cellText(c.Id), " ", p.form.valueText(c.Id, c.Was), " -> ", p.form.valueText(c.Id, c.Now))
	}
}

func tellTrace(p *play, _ api.Cmd, r api.Reply) {
	p.told.WriteString(trace.Print(p.form.pack, r.Trace))
}

func tellFindings(p *play, _ api.Cmd, r api.Reply) {
	for _, f := range r.Findings {
		how := "soft "
		if f.Hard {
			how = "hard "
		}
		text, _ := words.Quote(f.Text)
		p.line(how, strconv.Itoa(f.Rule), " ", p.form.placeText(f.Place), " ", p.form.placeValueText(f.Place, f.Val), " ", text)
	}
}

func tellAdvice(p *play, c api.Cmd, r api.Reply) {
	if !r.Advice.Ok {
		p.line("none")
		return
	}
	target, _ := p.form.cell(c.Line, c.Row)
	parts := []string{p.form.valueText(target, r.Advice.Val)}
	for i, pick := range r.Advice.Picks {
		cell, _ := p.form.cell(c.List[i], 0)
		parts = append(parts, " ", p.form.cellText(cell), "=", p.form.valueText(cell, pick))
	}
	p.line(parts...)
}

func tellPoints(p *play, _ api.Cmd, r api.Reply) {
	p.line(strconv.Itoa(len(r.Points)), " points")
	picture, _ := curve.Draw(r.Points, pictureWide, pictureHigh)
	for _, row := range picture {
		p.line(row)
	}
}

func tellPages(p *play, _ api.Cmd, r api.Reply) { p.told.WriteString(strings.Join(r.Pages, "")) }

func tellNames(p *play, _ api.Cmd, r api.Reply) {
	for i, name := range r.Names {
		if name == p.desk.Branch() {
			r.Names[i] = "*" + name
		}
	}
	p.line(strings.Join(r.Names, " "))
}

// conflict tells of a merge's conflict what each side has.
func (p *play) conflict(c api.Conflict) {
	cell := c.Base.Id
	p.line("  ", p.form.cellText(cell), " ", p.form.valueText(cell, c.Base.Now), " ", p.form.valueText(cell, c.Ours.Now), " ", p.form.valueText(cell, c.Theirs.Now))
}
