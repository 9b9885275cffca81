package graph_test

import (
	"fmt"
	"slices"
	"testing"

	"levy/api"
	"levy/graph"
)

// model: what the chapter says of a pack's cells, asked pair by pair.
type model struct {
	places []api.Place
	reads  [][]bool // whether the one cell may read the other
	comes  [][]bool // whether one can come from the one to the other, by one read or more
}

func modelOf(p api.Pack) model {
	m := model{places: modelPlaces(p)}
	for _, a := range m.places {
		row := make([]bool, len(m.places))
		for j, b := range m.places {
			row[j] = mayRead(p, a, b)
		}
		m.reads = append(m.reads, row)
	}
	for _, row := range m.reads {
		m.comes = append(m.comes, slices.Clone(row))
	}
	for over := range m.places {
		for from := range m.places {
			if !m.comes[from][over] {
				continue
			}
			for to := range m.places {
				m.comes[from][to] = m.comes[from][to] || m.comes[over][to]
			}
		}
	}
	return m
}

func modelPlaces(p api.Pack) []api.Place {
	var l []api.Place
	add := func(kind, index, group int) {
		rows := 1
		if group != -1 {
			rows = p.Groups[group].Rows
		}
		for row := 0; row < rows; row++ {
			l = append(l, api.Place{Kind: kind, Index: index, Row: row})
		}
	}
	for i, x := range p.Lines {
		add(api.PlaceLine, i, x.Group)
	}
	for i := range p.Groups {
		add(api.PlaceFlag, i, i)
	}
	for i, x := range p.Checks {
		add(api.PlaceCheck, i, x.Group)
	}
	return l
}

// mayRead: P8.4, of two places.
func mayRead(p api.Pack, a, b api.Place) bool {
	var group int
	var exprs []api.Expr
	switch {
	case a.Kind == api.PlaceFlag, a.Kind == api.PlaceLine && p.Lines[a.Index].Input:
		return false
	case a.Kind == api.PlaceCheck:
		group, exprs = p.Checks[a.Index].Group, []api.Expr{p.Checks[a.Index].When}
	default:
		group = p.Lines[a.Index].Group
		for _, c := range p.Lines[a.Index].Clauses {
			if exprs = append(exprs, c.Body); c.Guarded {
				exprs = append(exprs, c.Guard)
			}
		}
	}
	if group != -1 && b == (api.Place{Kind: api.PlaceFlag, Index: group, Row: a.Row}) {
		return true
	}
	return slices.ContainsFunc(exprs, func(e api.Expr) bool { return exprReads(p, e, a, b) })
}

func exprReads(p api.Pack, e api.Expr, a, b api.Place) bool {
	n := int(e.Num)
	isLine, isFlag := b.Kind == api.PlaceLine && b.Index == n, b.Kind == api.PlaceFlag
	switch e.Op {
	case api.OpLine:
		if isLine && (p.Lines[n].Group == -1 || b.Row == a.Row) {
			return true
		}
	case api.OpSum, api.OpLeast, api.OpGreatest, api.OpAny, api.OpAll:
		if isLine || isFlag && b.Index == p.Lines[n].Group {
			return true
		}
	case api.OpUsed:
		if isFlag && b.Index == n {
			return true
		}
	}
	return slices.ContainsFunc(e.Args, func(e api.Expr) bool { return exprReads(p, e, a, b) })
}

// those: the cells of which something is true.
func (m model) those(is func(cell int) bool) []int {
	var l []int
	for cell := range m.places {
		if is(cell) {
			l = append(l, cell)
		}
	}
	return l
}

func (m model) readsOf(cell int) []int { return m.those(func(c int) bool { return m.reads[cell][c] }) }
func (m model) usersOf(cell int) []int { return m.those(func(c int) bool { return m.reads[c][cell] }) }

// ranks: the longest way down from each cell, in a pack without cycles.
func (m model) ranks() []int {
	l := slices.Repeat([]int{-1}, len(m.places))
	var rank func(cell int) int
	rank = func(cell int) int {
		if l[cell] < 0 {
			l[cell] = 0
			for _, c := range m.readsOf(cell) {
				l[cell] = max(l[cell], 1+rank(c))
			}
		}
		return l[cell]
	}
	for cell := range l {
		rank(cell)
	}
	return l
}

// sorted: cells by rank, then by number.
func sorted(cells, ranks []int) []int {
	l := slices.Clone(cells)
	slices.SortStableFunc(l, func(a, b int) int { return (ranks[a]-ranks[b])*1000 + a - b })
	return l
}

func (m model) order(ranks []int) []int {
	return sorted(m.those(func(int) bool { return true }), ranks)
}

func (m model) hit(ranks []int, cells ...int) []int {
	return sorted(m.those(func(c int) bool {
		return slices.ContainsFunc(cells, func(x int) bool { return x == c || x >= 0 && x < len(m.places) && m.comes[c][x] })
	}), ranks)
}

func (m model) need(ranks []int, cells ...int) []int {
	return sorted(m.those(func(c int) bool {
		return slices.ContainsFunc(cells, func(x int) bool { return x == c || x >= 0 && x < len(m.places) && m.comes[x][c] })
	}), ranks)
}

// witness: P8.9; none, if no cell hangs on itself.
func (m model) witness() []int {
	hanging := m.those(func(cell int) bool { return m.comes[cell][cell] })
	if len(hanging) == 0 {
		return nil
	}
	first := hanging[0]
	ways := [][]bool{make([]bool, len(m.places))} // by how many reads: whether a way of just so many leads from a cell to the first one
	for ways[0][first] = true; len(ways) == 1 || !ways[len(ways)-1][first]; {
		longer := make([]bool, len(m.places))
		for cell := range longer {
			longer[cell] = slices.ContainsFunc(m.readsOf(cell), func(c int) bool { return ways[len(ways)-1][c] })
		}
		ways = append(ways, longer)
	}
	l := []int{first}
	for n := len(ways) - 2; n > 0; n-- {
		reads := m.readsOf(l[len(l)-1])
		l = append(l, reads[slices.IndexFunc(reads, func(c int) bool { return ways[n][c] })])
	}
	return l
}

// asModel asks a graph of a well-formed pack for all that the model tells, and tells how many cells a witness had (0: there is a graph).
func asModel(t *testing.T, p api.Pack) int {
	t.Helper()
	m := modelOf(p)
	if w := m.witness(); len(w) > 0 {
		if cycles(t, "as the model", p, w...); t.Failed() {
			t.Fatalf("the pack: %+v", p)
		}
		return len(w)
	}
	g := made(t, p)
	ranks := m.ranks()
	if g.Cells() != len(m.places) || !slices.Equal(g.Order(), m.order(ranks)) {
		t.Errorf("%d cells, order %v, want %d, %v", g.Cells(), g.Order(), len(m.places), m.order(ranks))
	}
	for cell, place := range m.places {
		cellAsModel(t, g, m, ranks, cell)
		if got, ok := g.Place(cell); got != place || !ok {
			t.Errorf("Place(%d): %v, %t, want %v", cell, got, ok, place)
		}
		call := map[int]func(int, int) (int, bool){api.PlaceLine: g.Cell, api.PlaceFlag: g.Flag, api.PlaceCheck: g.Check}[place.Kind]
		spots(t, fmt.Sprint("the call of kind ", place.Kind), call, place.Index, place.Row, cell)
	}
	if t.Failed() {
		t.Fatalf("the pack: %+v", p)
	}
	return 0
}

func cellAsModel(t *testing.T, g *graph.Graph, m model, ranks []int, cell int) {
	t.Helper()
	gives(t, fmt.Sprintf("Reads(%d)", cell), g.Reads(cell), m.readsOf(cell)...)
	gives(t, fmt.Sprintf("Users(%d)", cell), g.Users(cell), m.usersOf(cell)...)
	gives(t, fmt.Sprintf("Hit(%d)", cell), g.Hit(cell), m.hit(ranks, cell)...)
	gives(t, fmt.Sprintf("Need(%d)", cell), g.Need(cell), m.need(ranks, cell)...)
	if g.Rank(cell) != ranks[cell] {
		t.Errorf("Rank(%d): %d, want %d", cell, g.Rank(cell), ranks[cell])
	}
}
