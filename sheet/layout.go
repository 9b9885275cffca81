package sheet

import (
	"strconv"

	"levy/api"
	"levy/eval"
	"levy/graph"
	"levy/money"
	"levy/trie"
	"levy/types"
)

// layout: a pack whose returns can be laid out on pages, and how its values are written there.
type layout struct {
	pack     api.Pack
	graph    *graph.Graph
	words    map[int]dictionary // by the line's options' table; -1: without one
	numerals map[int]numeral    // by kind
}

// layoutOf answers nil, if the pack isn't well formed: it has no cells then.
func layoutOf(p api.Pack) *layout {
	g, _, errno := graph.New(p)
	if errno != api.OK {
		return nil
	}
	return &layout{pack: p, graph: g, words: dictionaries(p), numerals: numerals()}
}

// fits tells whether a map holds inputs alone, each such as its cell may hold.
func fits(p api.Pack, in *trie.Map) bool {
	v, errno := eval.New(p)
	return errno == api.OK && v.Fits(in) == api.OK
}

// allows tells whether a value may stand at a line's or check's place: a mishap never in an input.
func (y *layout) allows(place api.Place, v api.Value) bool {
	line := place.Kind == api.PlaceLine
	switch {
	case line && types.Fits(y.pack, place.Index, v):
		return true
	case y.isInput(place) || !money.Valid(v):
		return false
	}
	return v.Kind == api.Blank || v.Kind == api.Fault || !line && v.Kind == api.Flag
}

// allowsAll tells whether each computed cell's value may stand there; those of input cells aren't looked at.
func (y *layout) allowsAll(vals []api.Value) bool {
	for cell, v := range vals {
		place, _ := y.graph.Place(cell)
		if place.Kind != api.PlaceFlag && !y.isInput(place) && !y.allows(place, v) {
			return false
		}
	}
	return true
}

func (y *layout) isInput(place api.Place) bool {
	return place.Kind == api.PlaceLine && y.pack.Lines[place.Index].Input
}

func (y *layout) cell(place api.Place) uint32 {
	cell := 0
	if place.Kind == api.PlaceCheck {
		cell, _ = y.graph.Check(place.Index, place.Row)
	} else {
		cell, _ = y.graph.Cell(place.Index, place.Row)
	}
	return uint32(cell)
}

func (y *layout) flag(group, row int) uint32 {
	cell, _ := y.graph.Flag(group, row)
	return uint32(cell)
}

// name tells how a place is called: only checks of a group have their row in it, since no row's entry stands above them.
func (y *layout) name(place api.Place) string {
	if place.Kind == api.PlaceLine {
		return y.pack.Lines[place.Index].Name
	}
	c := y.pack.Checks[place.Index]
	if c.Group < 0 {
		return c.Name
	}
	return c.Name + "." + strconv.Itoa(place.Row+1)
}

// lead tells what stands ahead of a place's name: its mark, and blanks.
func (y *layout) lead(place api.Place) string {
	if place.Kind == api.PlaceCheck {
		return "! "
	}
	lead := "  "
	if y.isInput(place) {
		lead = "> "
	}
	if y.pack.Lines[place.Index].Group >= 0 {
		lead += "  "
	}
	return lead
}
