package trace

import (
	"levy/api"
	"levy/graph"
	"levy/trie"
)

// cells: a pack, and what its cells are.
type cells struct {
	pack  api.Pack
	graph *graph.Graph // nil: the pack may not be, so there are no cells
}

func cellsOf(p api.Pack) cells {
	g, _, _ := graph.New(p)
	return cells{p, g}
}

func (c cells) place(cell uint32) (api.Place, bool) {
	if c.graph == nil {
		return api.Place{}, false
	}
	return c.graph.Place(int(cell))
}

// computed tells whether there is such a cell and it is no input cell.
func (c cells) computed(cell uint32) bool {
	place, ok := c.place(cell)
	return ok && (place.Kind == api.PlaceCheck || place.Kind == api.PlaceLine && !c.pack.Lines[place.Index].Input)
}

// input tells what an input cell holds.
func (c cells) input(in *trie.Map, cell uint32) api.Value {
	v, ok := in.Get(cell)
	if place, _ := c.place(cell); place.Kind == api.PlaceFlag && !ok {
		return api.Value{Kind: api.Flag}
	}
	return v
}

// option tells the name of an option by the table of a cell's line; none, if it is no line of choices, or has no such option.
func (c cells) option(cell uint32, n int64) string {
	place, ok := c.place(cell)
	if !ok || place.Kind != api.PlaceLine || c.pack.Lines[place.Index].Type != api.Choice {
		return ""
	}
	names := c.pack.Options[c.pack.Lines[place.Index].Options].Names
	if n >= int64(len(names)) {
		return ""
	}
	return names[n]
}
