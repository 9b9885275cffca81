package eval

import (
	"iter"
	"slices"

	"levy/api"
	"levy/trie"
	"levy/types"
)

// outline copies what is asked of a pack once its expressions are made ready: what its lines are, its groups, options and bands.
func outline(p api.Pack) api.Pack {
	q := api.Pack{Groups: slices.Clone(p.Groups)}
	for _, o := range p.Options {
		q.Options = append(q.Options, api.Options{Names: slices.Clone(o.Names)})
	}
	for _, t := range p.Tables {
		q.Tables = append(q.Tables, api.Table{Bands: slices.Clone(t.Bands)})
	}
	for _, l := range p.Lines {
		l.Clauses = nil
		q.Lines = append(q.Lines, l)
	}
	return q
}

// fitsAt tells whether a value may stand at a cell of a map of inputs.
func (v *Eval) fitsAt(in *trie.Map, cell uint32, x api.Value) api.Errno {
	place, ok := v.graph.Place(int(cell))
	if !ok {
		return api.ErrEvalCell
	}
	fits := false
	switch {
	case v.formulaOf(cell) != nil:
	case place.Kind == api.PlaceFlag:
		fits = x == flag(true)
	default:
		fits = x.Kind != api.Blank && types.Fits(v.pack, place.Index, x) && v.inUse(in, place)
	}
	if !fits {
		return api.ErrEvalInput
	}
	return api.OK
}

// inUse tells whether the row of a line's place is used; a line of no group has none that could be unused.
func (v *Eval) inUse(in *trie.Map, line api.Place) bool {
	cell, ok := v.graph.Flag(v.pack.Lines[line.Index].Group, line.Row)
	if !ok {
		return true
	}
	_, used := in.Get(uint32(cell))
	return used
}

// formulaOf tells how a computed cell is reckoned; nil: it is an input cell, or none.
func (v *Eval) formulaOf(cell uint32) *formula {
	if uint64(cell) >= uint64(len(v.formulas)) {
		return nil
	}
	return v.formulas[cell]
}

// hold tells what the cells of an order hold, over a map that fits. In the order each cell stands behind all that it may read; cells that aren't in it are left Blank.
func (v *Eval) hold(in *trie.Map, order iter.Seq[int]) []api.Value {
	held := make([]api.Value, v.graph.Cells())
	read := holding(held)
	for cell := range order {
		if f := v.formulas[cell]; f != nil {
			held[cell] = f.reckon(read).Val
		} else {
			held[cell] = v.input(in, cell)
		}
	}
	return held
}

// input tells what an input cell holds.
func (v *Eval) input(in *trie.Map, cell int) api.Value {
	x, ok := in.Get(uint32(cell))
	if place, _ := v.graph.Place(cell); place.Kind == api.PlaceFlag {
		return flag(ok)
	}
	return x
}
