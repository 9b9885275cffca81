package trace

import (
	"strconv"
	"strings"

	"levy/api"
	"levy/days"
	"levy/words"
)

var mishapTexts = [...]string{api.Over: "over", api.Zero: "zero", api.Needed: "needed", api.Range: "range", api.Wrong: "wrong"}

// write adds the line of a node.
func (c cells) write(s *strings.Builder, n api.Node) {
	c.writeHeld(s, n.Cell, n.Val)
	switch {
	case n.Clause == 0:
		s.WriteString(" by default")
	case n.Clause > 0:
		s.WriteString(" by clause " + strconv.Itoa(n.Clause))
	}
	for _, r := range n.Reads {
		s.WriteString("; ")
		c.writeHeld(s, r.Cell, r.Seen)
	}
	s.WriteString("\n")
}

// writeHeld adds a cell's name and what it holds.
func (c cells) writeHeld(s *strings.Builder, cell uint32, v api.Value) {
	s.WriteString(text(c.thing(cell)) + " = " + text(c.value(cell, v)))
}

// text tells how a thing is written.
func text(x thing) string {
	switch x := x.(type) {
	case blank:
		return "-"
	case amount:
		return words.Amount(x.number())
	case count:
		return digits(x)
	case truth:
		return yesOrNo(x)
	case day:
		s, _ := days.Print(int(x.number()))
		return s
	case option:
		if x.name == "" {
			return "option " + digits(x)
		}
		return x.name
	case mishap:
		return mishapTexts[x.number()]
	case line:
		return x.name + inRow(x)
	case used:
		return "used " + x.name + inRow(x)
	case check:
		return "check " + x.name + inRow(x)
	case nowhere:
		return "cell " + digits(x)
	}
	return "?"
}

func digits(x thing) string { return strconv.FormatInt(x.number(), 10) }

func yesOrNo(x thing) string {
	if x.number() == 1 {
		return "yes"
	}
	return "no"
}

// inRow tells what stands behind a place's name.
func inRow(x thing) string {
	if x.number() == 0 {
		return ""
	}
	return "." + digits(x)
}
