package trace

import "levy/api"

// stepper tells the node of a computed cell, and true; false of every other one.
type stepper func(cell uint32) (api.Node, bool)

// walk tells the nodes that a cell rests on and its own, in the order in which they are left: each behind all that it reads.
func walk(cell uint32, step stepper) []api.Node {
	w := walker{step: step, begun: map[uint32]struct{}{}}
	w.from(cell)
	return w.left
}

type walker struct {
	step  stepper
	begun map[uint32]struct{}
	left  []api.Node
}

func (w *walker) from(cell uint32) {
	if _, ok := w.begun[cell]; ok {
		return
	}
	w.begun[cell] = struct{}{}
	n, ok := w.step(cell)
	if !ok {
		return
	}
	for _, r := range n.Reads {
		w.from(r.Cell)
	}
	w.left = append(w.left, n)
}
