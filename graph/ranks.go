package graph

import "slices"

// rankAll ranks the cells in rounds: each takes those that read ranked ones alone, so the number of the round is their rank. It tells whether all cells got one: such as hang on themselves never do.
func (g *Graph) rankAll() bool {
	g.ranks = make([]int, len(g.places))
	var ranked set
	for rank := 0; len(g.order) < len(g.places); rank++ {
		round := slices.Collect(g.those(func(cell int) bool { return !ranked[cell] && g.readsWithin(cell, ranked) }))
		if len(round) == 0 {
			return false
		}
		for _, cell := range round {
			g.ranks[cell], ranked[cell] = rank, true
		}
		g.order = append(g.order, round...)
	}
	return true
}

// readsWithin tells whether a set holds all that a cell may read.
func (g *Graph) readsWithin(cell int, s set) bool {
	for read := range g.Reads(cell) {
		if !s[read] {
			return false
		}
	}
	return true
}
