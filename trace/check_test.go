package trace_test

import (
	"math"
	"slices"
	"testing"

	"levy/api"
	"levy/trie"
)

// spare: the node of the example's row that isn't used.
func spare() api.Node { return node(4, blank, -1, at(7, no)) }

func TestP13_3Examples(t *testing.T) {
	p, in := example(), inputs(nine()...)
	checks(t, "as it is", p, in, traced(creditNode(), totalNode()), 0, api.OK)
	checks(t, "without its first node", p, in, traced(totalNode()), 0, api.ErrTraceOrder)
	other := creditNode()
	other.Val.Num = 300000
	checks(t, "another value", p, in, traced(other, totalNode()), 0, api.ErrTraceNode)
	checks(t, "one more node", p, in, traced(spare(), creditNode(), totalNode()), 0, api.ErrTraceOrder)
	checks(t, "no inputs", p, trie.Empty(), traced(creditNode(), totalNode()), 0, api.ErrTraceNode)
}

func TestP13_3InputsThatDoNotFit(t *testing.T) {
	p, good := example(), traced(creditNode(), totalNode())
	bad := node(99, blank, 5, at(5, blank))
	for what, x := range map[string]api.Read{
		"no cell": at(8, cent(1)), "far from a cell": at(math.MaxUint32, cent(1)), "a computed cell": at(3, cent(200000)), "another computed cell": at(5, cent(200000)),
		"a flag that isn't set": at(7, no), "a flag of another kind": at(7, num(1)), "a blank": at(0, blank), "a value of another kind": at(0, num(1)),
		"a value beyond its bound": at(0, cent(api.MaxCents+1)), "a row that isn't used": at(2, num(1)),
	} {
		in := inputs(nine()...).Put(x.Cell, x.Seen)
		checks(t, what, p, in, good, 0, api.ErrTraceInput)
		checks(t, what+", no nodes", p, in, api.Trace{}, 0, api.ErrTraceInput)
		checks(t, what+", a bad node", p, in, traced(bad), 0, api.ErrTraceInput)
		checks(t, what+", a bad node behind", p, in, traced(creditNode(), bad), 0, api.ErrTraceInput)
	}
	checks(t, "an input that isn't read", p, inputs(nine()...).Put(0, cent(1)), good, 0, api.OK)
	checks(t, "the row in use", p, inputs(nine()...).Put(7, yes).Put(2, num(1)), traced(creditNode()), 0, api.OK)
}

func TestP13_3NoNodes(t *testing.T) {
	for _, in := range []*trie.Map{trie.Empty(), inputs(nine()...)} {
		checks(t, "nil", example(), in, api.Trace{}, 0, api.ErrTraceCell)
		checks(t, "empty", example(), in, api.Trace{Nodes: []api.Node{}}, 0, api.ErrTraceCell)
	}
}

// No computed cell is told ahead of all else that is wrong with the node.
func TestP13_3NoComputedCell(t *testing.T) {
	p, in := example(), inputs(nine()...)
	for _, cell := range []uint32{0, 1, 2, 6, 7, 8, 9, 256, math.MaxUint32} {
		plain := node(cell, blank, -1)
		for _, n := range []api.Node{plain, node(cell, num(9), 0), node(cell, blank, 0, at(5, blank)), node(cell, blank, -1, at(cell, blank)), asking(plain, yes)} {
			checks(t, "first", p, in, traced(n, creditNode(), totalNode()), 0, api.ErrTraceCell)
			checks(t, "alone", p, in, traced(n), 0, api.ErrTraceCell)
			checks(t, "between", p, in, traced(creditNode(), n, totalNode()), 1, api.ErrTraceCell)
			checks(t, "last", p, in, traced(creditNode(), totalNode(), n), 2, api.ErrTraceCell)
			checks(t, "twice", p, in, traced(creditNode(), n, n), 1, api.ErrTraceCell)
		}
	}
}

// A cell that stands ahead is out of order, whatever else is wrong with its second node.
func TestP13_3Twice(t *testing.T) {
	p, in := example(), inputs(nine()...)
	checks(t, "the root", p, in, traced(creditNode(), totalNode(), totalNode()), 2, api.ErrTraceOrder)
	checks(t, "side by side", p, in, traced(creditNode(), creditNode(), totalNode()), 1, api.ErrTraceOrder)
	checks(t, "at the end", p, in, traced(creditNode(), totalNode(), creditNode()), 2, api.ErrTraceOrder)
	checks(t, "another node of that cell", p, in, traced(creditNode(), node(3, cent(1), 4, at(99, yes)), totalNode()), 1, api.ErrTraceOrder)
	checks(t, "one that isn't needed", p, in, traced(spare(), spare()), 1, api.ErrTraceOrder)
}

// A computed cell that was read must stand ahead; that is asked ahead of what the node says.
func TestP13_3ReadsStandAhead(t *testing.T) {
	p, in := example(), inputs(nine()...)
	checks(t, "the root first", p, in, traced(totalNode(), creditNode()), 0, api.ErrTraceOrder)
	checks(t, "it reads itself", p, in, traced(node(4, blank, -1, at(7, no), at(4, blank))), 0, api.ErrTraceOrder)
	checks(t, "a wrong node that reads another", p, in, traced(creditNode(), node(5, num(3), 7, at(4, yes))), 1, api.ErrTraceOrder)
	checks(t, "the last of its reads", p, in, traced(creditNode(), node(5, cent(200000), 0, at(6, yes), at(3, cent(200000)), at(7, no), at(4, blank))), 1, api.ErrTraceOrder)
	checks(t, "it stands ahead, but isn't read", p, in, traced(creditNode(), spare(), node(5, cent(200000), 0, at(6, yes), at(3, cent(200000)), at(7, no), at(4, blank))), 2, api.ErrTraceNode)
	checks(t, "input cells needn't", p, in, traced(node(3, cent(200000), 0, at(6, yes), at(1, num(9)), at(0, blank))), 0, api.ErrTraceNode)
	checks(t, "nor numbers of no cell", p, in, traced(node(3, cent(200000), 0, at(6, yes), at(1, num(9)), at(8, blank), at(math.MaxUint32, blank))), 0, api.ErrTraceNode)
	checks(t, "what it doesn't own to having read", p, in, traced(node(5, cent(200000), 0, at(6, yes), at(7, no))), 0, api.ErrTraceNode)
	checks(t, "nor anything else", p, in, traced(node(5, cent(200000), 0)), 0, api.ErrTraceNode)
}

// fields: nodes that differ from one in a field.
func fields(n api.Node) []api.Node {
	change := func(does func(n *api.Node)) api.Node {
		k := copied(traced(n)).Nodes[0]
		does(&k)
		return k
	}
	l := []api.Node{
		change(func(n *api.Node) { n.Val.Num++ }),
		change(func(n *api.Node) { n.Val.Num = -n.Val.Num - 1 }),
		change(func(n *api.Node) { n.Val.Kind++ }),
		change(func(n *api.Node) { n.Val = wrong }),
		change(func(n *api.Node) { n.Clause++ }),
		change(func(n *api.Node) { n.Clause-- }),
		change(func(n *api.Node) { n.Guards = append(n.Guards, no) }),
		change(func(n *api.Node) { n.Guards = slices.Insert(n.Guards, 0, yes) }),
		change(func(n *api.Node) { n.Reads = append(n.Reads, at(0, blank)) }),
		change(func(n *api.Node) { n.Reads = slices.Insert(n.Reads, 0, at(1<<20, blank)) }),
	}
	for i := range n.Guards {
		l = append(l, change(func(n *api.Node) { n.Guards[i].Num++ }), change(func(n *api.Node) { n.Guards[i].Kind++ }), change(func(n *api.Node) { n.Guards = slices.Delete(n.Guards, i, i+1) }))
	}
	for i := range n.Reads {
		l = append(l,
			change(func(n *api.Node) { n.Reads[i].Cell++ }), change(func(n *api.Node) { n.Reads[i].Cell = 1 << 31 }),
			change(func(n *api.Node) { n.Reads[i].Seen.Num++ }), change(func(n *api.Node) { n.Reads[i].Seen.Kind++ }),
			change(func(n *api.Node) { n.Reads = slices.Delete(n.Reads, i, i+1) }), change(func(n *api.Node) { n.Reads = slices.Insert(n.Reads, i, n.Reads[i]) }),
		)
		if i > 0 {
			l = append(l, change(func(n *api.Node) { n.Reads[i], n.Reads[i-1] = n.Reads[i-1], n.Reads[i] }))
		}
	}
	return l
}

// Each field of each node counts, the last one of each list too.
func TestP13_3FieldByField(t *testing.T) {
	m, in := memo(t, web(), at(0, cent(5)), at(1, no)), inputs(at(0, cent(5)), at(1, no))
	x := explained(t, m, 2)
	model := modelOf(t, web())
	seen := tally{}
	for i, n := range x.Nodes {
		for _, k := range fields(n) {
			other := copied(x)
			other.Nodes[i] = k
			place, errno := model.check(in, other.Nodes)
			if errno != api.ErrTraceNode && errno != api.ErrTraceOrder || place != i {
				t.Fatalf("%+v: the model tells %d, error %d", k, place, errno)
			}
			checks(t, "another field", web(), in, other, place, errno)
			seen[errno.Error()]++
		}
	}
	seen.atLeast(t, 4, api.ErrTraceNode.Error(), api.ErrTraceOrder.Error())
}

// A node is told what its inputs hold, and what the nodes ahead say: those are right, or the check has ended there.
func TestP13_3WhatANodeIsTold(t *testing.T) {
	p := web()
	in := inputs(at(0, cent(5)), at(1, no))
	x, y := node(3, cent(5), 0, at(0, cent(5))), node(4, cent(10), 0, at(3, cent(5)))
	checks(t, "right", p, in, traced(x, y), 0, api.OK)
	checks(t, "other inputs", p, inputs(at(0, cent(6))), traced(x, y), 0, api.ErrTraceNode)
	checks(t, "seen what isn't so", p, in, traced(x, node(4, cent(12), 0, at(3, cent(6)))), 1, api.ErrTraceNode)
	checks(t, "both as if it were so", p, in, traced(node(3, cent(6), 0, at(0, cent(6))), node(4, cent(12), 0, at(3, cent(6)))), 0, api.ErrTraceNode)
	checks(t, "blank where no node is", p, in, traced(node(4, needed, 0, at(3, blank))), 0, api.ErrTraceOrder)
	checks(t, "an input that isn't set", p, trie.Empty(), traced(node(3, blank, 0, at(0, blank))), 0, api.OK)
	checks(t, "and a flag", example(), trie.Empty(), traced(node(5, cent(0), 0, at(6, no), at(7, no))), 0, api.OK)
	checks(t, "a flag isn't blank", example(), trie.Empty(), traced(node(5, needed, 0, at(6, blank))), 0, api.ErrTraceNode)
}

// The first node that is wrong is told, and the order of the walk behind all nodes alone.
func TestP13_3FirstNode(t *testing.T) {
	p, in := web(), inputs(at(0, cent(5)), at(1, no))
	x := explained(t, memo(t, p, at(0, cent(5)), at(1, no)), 2)
	u := node(7, cent(-5), 0, at(0, cent(5)))
	bad := node(7, cent(5), 0, at(0, cent(5)))
	none := node(0, cent(5), -1)
	with := func(i int, n ...api.Node) api.Trace { return traced(slices.Insert(copied(x).Nodes, i, n...)...) }
	for i := range x.Nodes {
		checks(t, "a node that isn't needed", p, in, with(i, u), i, api.ErrTraceOrder)
		checks(t, "which is wrong", p, in, with(i, bad), i, api.ErrTraceNode)
		checks(t, "and none behind it", p, in, with(i, bad, none), i, api.ErrTraceNode)
		checks(t, "none ahead of it", p, in, with(i, none, bad), i, api.ErrTraceCell)
		checks(t, "not needed, and twice", p, in, with(i, u, u), i+1, api.ErrTraceOrder)
		checks(t, "not needed, and a wrong one at the end", p, in, traced(append(with(i, u).Nodes, none)...), len(x.Nodes)+1, api.ErrTraceCell)
	}
}

// All nodes are right, and each stands behind those that it reads: the walk alone tells them apart.
func TestP13_3OrderOfTheWalk(t *testing.T) {
	p, in := web(), inputs(at(0, cent(5)), at(1, no))
	n := explained(t, memo(t, p, at(0, cent(5)), at(1, no)), 2).Nodes // the cells 3, 4, 6, 5, 2
	u := node(7, cent(-5), 0, at(0, cent(5)))
	pick := func(l ...int) api.Trace {
		var x []api.Node
		for _, i := range l {
			x = append(x, append(n, u)[i])
		}
		return traced(x...)
	}
	checks(t, "as it is", p, in, pick(0, 1, 2, 3, 4), 0, api.OK)
	checks(t, "v first", p, in, pick(2, 0, 1, 3, 4), 0, api.ErrTraceOrder)
	checks(t, "v second", p, in, pick(0, 2, 1, 3, 4), 1, api.ErrTraceOrder)
	checks(t, "without the last one", p, in, pick(0, 1, 2, 3), 0, api.OK)
	checks(t, "z isn't the last one", p, in, pick(0, 1, 2), 0, api.ErrTraceOrder)
	checks(t, "without the last three", p, in, pick(0, 1), 0, api.OK)
	checks(t, "the first alone", p, in, pick(0), 0, api.OK)
	checks(t, "u at the end: its walk is itself", p, in, pick(0, 1, 2, 3, 4, 5), 0, api.ErrTraceOrder)
	checks(t, "u between", p, in, pick(0, 1, 2, 5, 3, 4), 3, api.ErrTraceOrder)
	checks(t, "u ahead of the root", p, in, pick(0, 1, 2, 3, 5, 4), 4, api.ErrTraceOrder)
	checks(t, "x, then y behind u", p, in, pick(0, 5, 1), 1, api.ErrTraceOrder)
}
