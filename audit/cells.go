package audit

import (
	"strings"

	"levy/api"
	"levy/graph"
)

// cell: what the rules look at, of a line's cell or a check's.
type cell struct {
	number  uint32
	place   api.Place
	inGroup bool
	flag    uint32 // its row's, if it is of a group
	strict  bool   // of a line: Must; of a check: Hard
	text    string // what a finding tells of it
}

// cellsOf tells the cells of a pack's lines and checks, rising. The flags aren't among them: no rule looks at one.
func cellsOf(p api.Pack, g *graph.Graph) []cell {
	var l []cell
	for n := range g.Cells() {
		place, _ := g.Place(n)
		switch place.Kind {
		case api.PlaceLine:
			x := p.Lines[place.Index]
			l = append(l, cellAt(g, n, x.Group, x.Must, x.Name))
		case api.PlaceCheck:
			x := p.Checks[place.Index]
			l = append(l, cellAt(g, n, x.Group, x.Hard, x.Text))
		}
	}
	return l
}

// cellAt tells a cell by its number and by what its line or check says.
func cellAt(g *graph.Graph, n, group int, strict bool, text string) cell {
	place, _ := g.Place(n)
	flag, inGroup := g.Flag(group, place.Row) // group -1 has no flags
	return cell{number: uint32(n), place: place, inGroup: inGroup, flag: uint32(flag), strict: strict, text: strings.Clone(text)}
}

// counts tells whether a cell is of no group, or of a row that is used.
func (c cell) counts(know reader) bool { return !c.inGroup || isTrue(know(c.flag)) }
