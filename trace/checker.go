package trace

import (
	"slices"

	"levy/api"
	"levy/eval"
	"levy/trie"
)

// checker: what a trace is held against: the pack, inputs that fit, and the nodes that were found right so far.
type checker struct {
	cells
	eval  *eval.Eval
	in    *trie.Map
	ahead map[uint32]api.Node // by cell
}

// newChecker answers nil, if the inputs don't fit; those of a pack that eval refuses never do.
func newChecker(p api.Pack, in *trie.Map) *checker {
	if in == nil {
		in = trie.Empty()
	}
	v, errno := eval.New(p)
	if errno != api.OK || v.Fits(in) != api.OK {
		return nil
	}
	return &checker{cells: cellsOf(p), eval: v, in: in, ahead: map[uint32]api.Node{}}
}

// refusal tells what is wrong with a node, those ahead of it being right.
func (c *checker) refusal(n api.Node) api.Errno {
	switch {
	case !c.computed(n.Cell):
		return api.ErrTraceCell
	case c.stands(n.Cell) || !c.rests(n):
		return api.ErrTraceOrder
	case !same(n, c.eval.With(n.Cell, c.told)):
		return api.ErrTraceNode
	}
	return api.OK
}

// stands tells whether a node ahead has this cell.
func (c *checker) stands(cell uint32) bool {
	_, ok := c.ahead[cell]
	return ok
}

// rests tells whether all computed cells that a node says it read stand ahead of it.
func (c *checker) rests(n api.Node) bool {
	for _, r := range n.Reads {
		if c.computed(r.Cell) && !c.stands(r.Cell) {
			return false
		}
	}
	return true
}

// told tells what a cell is that is read: a computed one is what its node ahead says, Blank where there is none.
func (c *checker) told(cell uint32) api.Value {
	if c.computed(cell) {
		return c.ahead[cell].Val
	}
	return c.input(c.in, cell)
}

// same tells whether two nodes are alike, field by field.
func same(a, b api.Node) bool {
	return a.Cell == b.Cell && a.Val == b.Val && a.Clause == b.Clause && slices.Equal(a.Guards, b.Guards) && slices.Equal(a.Reads, b.Reads)
}

// order tells where nodes, all of them right, stand otherwise than the walk of the last one leaves them. What the walk leaves last stands nowhere else: so one that is too short has left another cell by its end.
func (c *checker) order(nodes []api.Node) (int, api.Errno) {
	for i, left := range walk(nodes[len(nodes)-1].Cell, c.step) {
		if left.Cell != nodes[i].Cell {
			return i, api.ErrTraceOrder
		}
	}
	return 0, api.OK
}

func (c *checker) step(cell uint32) (api.Node, bool) {
	n, ok := c.ahead[cell]
	return n, ok
}
