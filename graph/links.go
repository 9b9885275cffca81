package graph

import "levy/api"

// link notes for each cell which ones it may read.
func (g *Graph) link(p api.Pack) {
	g.reads = make([]set, len(g.places))
	for cell, place := range g.places {
		group, exprs := reckonedBy(p, place)
		if group >= 0 {
			g.note(cell, g.flags[group].at(place.Row))
		}
		for _, e := range exprs {
			g.linkExpr(p, cell, e)
		}
	}
}

// reckonedBy tells the group and the expressions that a cell is reckoned by; -1 and none of a cell that isn't reckoned.
func reckonedBy(p api.Pack, place api.Place) (group int, exprs []api.Expr) {
	switch place.Kind {
	case api.PlaceLine:
		l := p.Lines[place.Index]
		if l.Input {
			return -1, nil
		}
		for _, c := range l.Clauses {
			exprs = append(exprs, c.Guard, c.Body) // a default's guard is the zero expression, which reads nothing
		}
		return l.Group, exprs
	case api.PlaceCheck:
		c := p.Checks[place.Index]
		return c.Group, []api.Expr{c.When}
	}
	return -1, nil
}

// linkExpr looks at all nodes of an expression, also at such as may never be reckoned: what is true shows only later.
func (g *Graph) linkExpr(p api.Pack, cell int, e api.Expr) {
	switch e.Op {
	case api.OpLine:
		named := g.lines[e.Num]
		if p.Lines[e.Num].Group >= 0 {
			named = named.at(g.places[cell].Row)
		}
		g.note(cell, named)
	case api.OpSum, api.OpLeast, api.OpGreatest, api.OpAny, api.OpAll:
		g.note(cell, g.flags[p.Lines[e.Num].Group], g.lines[e.Num])
	case api.OpUsed:
		g.note(cell, g.flags[e.Num])
	}
	for _, arg := range e.Args {
		g.linkExpr(p, cell, arg)
	}
}

// note notes that a cell may read all cells of some runs.
func (g *Graph) note(cell int, runs ...run) {
	for _, r := range runs {
		for row := range r.rows {
			g.reads[cell][r.first+row] = true
		}
	}
}

// mayRead is the one relation that Reads and Users tell from its two ends.
func (g *Graph) mayRead(cell, other int) bool {
	return g.has(cell) && g.has(other) && g.reads[cell][other]
}

// withReads tells a set with all that its cells may read, and so on. Gone through from the back, a cell's turn comes behind all that may read it.
func (g *Graph) withReads(s set) set {
	for at := len(g.order) - 1; at >= 0; at-- {
		if !s[g.order[at]] {
			continue
		}
		for read := range g.Reads(g.order[at]) {
			s[read] = true
		}
	}
	return s
}
