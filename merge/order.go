package merge

import (
	"iter"

	"levy/api"
	"levy/graph"
)

// order: the keys of a pack's inputs, in the form's order. It keeps nothing of the pack.
type order struct {
	lists [][]uint32         // a key of no row by itself; a row's keys together, its flag first
	held  [api.MaxCells]bool // by cell: whether it is in one of them
}

// orderOf tells the order of a pack; of one that isn't well formed, an order without keys of inputs.
func orderOf(p api.Pack) *order {
	o := &order{}
	g, _, errno := graph.New(p)
	if errno != api.OK {
		return o
	}
	for _, key := range inputsAt(p, g, -1, 0) {
		o.add(key)
	}
	for group, x := range p.Groups {
		for row := range x.Rows {
			flag, _ := g.Flag(group, row)
			o.add(append([]uint32{uint32(flag)}, inputsAt(p, g, group, row)...)...)
		}
	}
	return o
}

// inputsAt tells the cells at a row of a group's input lines, by line. (Group -1: of no group, whose only row is 0.)
func inputsAt(p api.Pack, g *graph.Graph, group, row int) []uint32 {
	var l []uint32
	for i, line := range p.Lines {
		if line.Input && line.Group == group {
			cell, _ := g.Cell(i, row)
			l = append(l, uint32(cell))
		}
	}
	return l
}

func (o *order) add(keys ...uint32) {
	o.lists = append(o.lists, keys)
	for _, key := range keys {
		o.held[key] = true
	}
}

func (o *order) has(key uint32) bool { return key < api.MaxCells && o.held[key] }

// parts gives, in the form's order, the keys that are merged together: all of the inputs, and of others those that differ, each by itself.
func (o *order) parts(differ iter.Seq[api.Change]) iter.Seq[[]uint32] {
	return func(yield func([]uint32) bool) {
		for _, l := range o.lists {
			if !yield(l) {
				return
			}
		}
		for c := range differ { // they rise
			if !o.has(c.Id) && !yield([]uint32{c.Id}) {
				return
			}
		}
	}
}

// keys gives the same keys one by one.
func (o *order) keys(differ iter.Seq[api.Change]) iter.Seq[uint32] {
	return func(yield func(uint32) bool) {
		for part := range o.parts(differ) {
			for _, key := range part {
				if !yield(key) {
					return
				}
			}
		}
	}
}
