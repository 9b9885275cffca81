package advise

import (
	"levy/api"
	"levy/graph"
	"levy/trie"
)

// question: a pack that is well formed, and inputs that fit it: what cells and targets are asked of.
type question struct {
	pack  api.Pack
	graph *graph.Graph
	in    *trie.Map
}

// choices tells what some cells may be filled with; false, if one of them can't be chosen, or stands there twice.
func (q question) choices(cells []uint32) ([]choice, bool) {
	var l []choice
	var seen [api.MaxCells]bool
	for _, cell := range cells {
		c, ok := q.choice(cell)
		if !ok || seen[cell] {
			return nil, false
		}
		seen[cell] = true
		l = append(l, c)
	}
	return l, true
}

// choice tells what a cell may be filled with; false, if it can't be chosen.
func (q question) choice(cell uint32) (choice, bool) {
	line, row, ok := q.line(cell)
	if !ok || !line.Input || !q.inUse(line, row) {
		return choice{}, false
	}
	switch line.Type {
	case api.Flag:
		return choice{cell, api.Flag, 2}, true
	case api.Choice:
		return choice{cell, api.Choice, int64(len(q.pack.Options[line.Options].Names))}, true
	}
	return choice{}, false
}

// aims tells whether a cell may be the target.
func (q question) aims(cell uint32) bool {
	line, _, ok := q.line(cell)
	return ok && line.Type == api.Cents
}

// line tells the line of a cell, and the row; false, if it isn't the cell of a line.
func (q question) line(cell uint32) (api.Line, int, bool) {
	place, ok := q.graph.Place(int(cell))
	if !ok || place.Kind != api.PlaceLine {
		return api.Line{}, 0, false
	}
	return q.pack.Lines[place.Index], place.Row, true
}

// inUse tells whether the row of a line is used; a line of no group has none that could be unused.
func (q question) inUse(line api.Line, row int) bool {
	flag, ok := q.graph.Flag(line.Group, row)
	if !ok {
		return true
	}
	_, used := q.in.Get(uint32(flag))
	return used
}
