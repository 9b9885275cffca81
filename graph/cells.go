package graph

import (
	"iter"

	"levy/api"
)

// run: the cells of a line, of a group's flags or of a check: one a row, side by side.
type run struct {
	first, rows int
}

// at tells the run of one row alone.
func (r run) at(row int) run { return run{r.first + row, 1} }

// spread lays out a pack's cells; what they read isn't known yet.
func spread(p api.Pack) *Graph {
	g := &Graph{}
	for i, l := range p.Lines {
		g.lines = append(g.lines, g.lay(api.PlaceLine, i, rowsIn(p, l.Group)))
	}
	for i := range p.Groups {
		g.flags = append(g.flags, g.lay(api.PlaceFlag, i, rowsIn(p, i)))
	}
	for i, c := range p.Checks {
		g.checks = append(g.checks, g.lay(api.PlaceCheck, i, rowsIn(p, c.Group)))
	}
	return g
}

func rowsIn(p api.Pack, group int) int {
	if group < 0 {
		return 1
	}
	return p.Groups[group].Rows
}

func (g *Graph) lay(kind, index, rows int) run {
	r := run{len(g.places), rows}
	for row := range rows {
		g.places = append(g.places, api.Place{Kind: kind, Index: index, Row: row})
	}
	return r
}

func cellOf(runs []run, index, row int) (int, bool) {
	if index < 0 || index >= len(runs) || row < 0 || row >= runs[index].rows {
		return 0, false
	}
	return runs[index].first + row, true
}

func (g *Graph) has(cell int) bool { return 0 <= cell && cell < len(g.places) }

// those gives the cells of which something is true, rising.
func (g *Graph) those(is func(cell int) bool) iter.Seq[int] {
	return func(yield func(int) bool) {
		for cell := range g.places {
			if is(cell) && !yield(cell) {
				return
			}
		}
	}
}

// setOf tells the set of those among some numbers that are cells.
func (g *Graph) setOf(numbers []int) set {
	var s set
	for _, n := range numbers {
		if g.has(n) {
			s[n] = true
		}
	}
	return s
}
