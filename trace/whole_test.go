package trace_test

import (
	"fmt"
	"math/rand"
	"slices"
	"testing"

	"levy/api"
	"levy/trace"
	"levy/trie"
)

// All promises by packs and traces that chance makes, held against the model and against each other.

// tally counts what came about, so that chance leaves nothing out.
type tally map[string]int

func (c tally) atLeast(t *testing.T, n int, what ...string) {
	t.Helper()
	for _, x := range what {
		if c[x] < n {
			t.Errorf("%s: %d times", x, c[x])
		}
	}
}

// fitting: a list of inputs without those of rows that aren't used.
func (m *model) fitting(l []api.Read) []api.Read {
	return slices.DeleteFunc(slices.Clone(l), func(x api.Read) bool {
		place, _ := m.graph.Place(int(x.Cell))
		if place.Kind != api.PlaceLine {
			return false
		}
		row, ok := m.graph.Flag(m.pack.Lines[place.Index].Group, place.Row)
		return ok && !slices.Contains(l, at(uint32(row), yes))
	})
}

// Explain's traces are the model's, over inputs that fit and others, while the memo is set and asked.
func TestP13_2AsTheModel(t *testing.T) {
	counts := tally{}
	eachMade(t, 132, 150, 24, func(r *rand.Rand, p api.Pack, m *model) {
		in := someInputs(r, m)
		memo := memo(t, p, in...)
		now := inputs(in...)
		for range 12 {
			for range r.Intn(3) {
				if cell, v, ok := anInput(r, m); ok {
					memo.Set(cell, v)
					now = now.Put(cell, v)
					if v == blank || v == no && m.isFlag(int(cell)) {
						now = now.Drop(cell)
					}
				}
			}
			cell := uint32(r.Intn(m.graph.Cells() + 1))
			if !m.isComputed(cell) {
				refuses(t, memo, cell)
				counts["refused"]++
				continue
			}
			asked := memo.Clone()
			asked.Get(cell)
			want := m.trace(now, cell)
			explains(t, memo, cell, want...)
			if state(memo) != state(asked) {
				t.Errorf("behind Explain(%d): %s, behind Get: %s", cell, state(memo), state(asked))
			}
			counts[fmt.Sprint("nodes ", min(len(want), 4))]++
		}
	})
	counts.atLeast(t, 50, "refused", "nodes 1", "nodes 2", "nodes 3", "nodes 4")
}

// What Explain tells is taken by Check, over the memo's inputs where they fit; the root has what the cell holds.
func TestP13_5ExplainedIsTaken(t *testing.T) {
	counts := tally{}
	eachMade(t, 135, 120, 24, func(r *rand.Rand, p api.Pack, m *model) {
		for range 3 {
			in := someInputs(r, m)
			if r.Intn(3) > 0 {
				in = m.fitting(in)
			}
			memo := memo(t, p, in...)
			held := m.holds(inputs(in...))
			for _, cell := range m.some(r, 6) {
				x := explained(t, memo, cell)
				root := x.Nodes[len(x.Nodes)-1]
				if v, n, _ := memo.Get(cell); root.Val != v || v != held[cell] || root.Cell != cell || n != 0 {
					t.Errorf("the root of %d: %+v; it holds %v, %v", cell, root, v, held[cell])
				}
				errno := api.OK
				if m.eval.Fits(inputs(in...)) != api.OK {
					errno = api.ErrTraceInput
				}
				checks(t, "explained", p, inputs(in...), x, 0, errno)
				checks(t, "explained, over the inputs that fit", p, inputs(m.fitting(in)...), x, 0, api.OK)
				prints(t, p, x, m.print(x.Nodes))
				counts[fmt.Sprint("error ", int(errno))]++
				counts[fmt.Sprint("kind ", root.Val.Kind)]++
			}
		}
	})
	counts.atLeast(t, 50, "error 0", "error 131", "kind 0", "kind 1", "kind 2", "kind 3", "kind 4", "kind 5", "kind 6")
}

// bend: something done to a trace, at a node.
type bend struct {
	name string
	do   func(r *rand.Rand, m *model, x *api.Trace, i int, in *trie.Map)
}

// bends: a field changed, a node left out, doubled, moved, or taken from elsewhere.
func bends() []bend {
	return []bend{
		{"field", func(r *rand.Rand, _ *model, x *api.Trace, i int, _ *trie.Map) {
			x.Nodes[i] = pick(r, fields(x.Nodes[i])...)
		}},
		{"cell", func(r *rand.Rand, m *model, x *api.Trace, i int, _ *trie.Map) {
			x.Nodes[i].Cell = uint32(r.Intn(m.graph.Cells() + 2))
		}},
		{"value", func(r *rand.Rand, _ *model, x *api.Trace, i int, _ *trie.Map) { x.Nodes[i].Val = odd(r) }},
		{"seen", func(r *rand.Rand, _ *model, x *api.Trace, i int, _ *trie.Map) {
			if l := x.Nodes[i].Reads; len(l) > 0 {
				l[r.Intn(len(l))].Seen = odd(r)
			}
		}},
		{"left out", func(_ *rand.Rand, _ *model, x *api.Trace, i int, _ *trie.Map) {
			x.Nodes = slices.Delete(x.Nodes, i, i+1)
		}},
		{"doubled", func(r *rand.Rand, _ *model, x *api.Trace, i int, _ *trie.Map) {
			x.Nodes = slices.Insert(x.Nodes, r.Intn(len(x.Nodes)+1), x.Nodes[i])
		}},
		{"changed places", func(r *rand.Rand, _ *model, x *api.Trace, i int, _ *trie.Map) {
			j := r.Intn(len(x.Nodes))
			x.Nodes[i], x.Nodes[j] = x.Nodes[j], x.Nodes[i]
		}},
		{"cut off", func(_ *rand.Rand, _ *model, x *api.Trace, i int, _ *trie.Map) { x.Nodes = x.Nodes[:i] }},
		{"moved", func(r *rand.Rand, _ *model, x *api.Trace, i int, _ *trie.Map) {
			n := x.Nodes[i]
			x.Nodes = slices.Delete(x.Nodes, i, i+1)
			x.Nodes = slices.Insert(x.Nodes, r.Intn(len(x.Nodes)+1), n)
		}},
		{"from elsewhere", func(r *rand.Rand, m *model, x *api.Trace, i int, in *trie.Map) {
			l := m.trace(in, pick(r, m.computed()...))
			x.Nodes = slices.Insert(x.Nodes, i, pick(r, l...))
		}},
		{"another trace ahead", func(r *rand.Rand, m *model, x *api.Trace, i int, in *trie.Map) {
			l := slices.DeleteFunc(m.trace(in, pick(r, m.computed()...)), func(n api.Node) bool { return has(x.Nodes, n.Cell) })
			x.Nodes = slices.Insert(x.Nodes, i, l...)
		}},
	}
}

// spoilt: a trace with something done to it, by chance.
func spoilt(r *rand.Rand, m *model, x api.Trace, in *trie.Map, counts tally) api.Trace {
	x = copied(x)
	b := pick(r, bends()...)
	b.do(r, m, &x, r.Intn(len(x.Nodes)), in)
	counts[b.name]++
	return x
}

// own: whether a trace is the one of its last node's cell.
func (m *model) own(in *trie.Map, l []api.Node) bool {
	return len(l) > 0 && m.isComputed(l[len(l)-1].Cell) && sameNodes(l, m.trace(in, l[len(l)-1].Cell))
}

// What is spoilt by chance is taken just if it is the trace of its own last node's cell; else the first fault is told.
func TestP13_7SpoiltByChance(t *testing.T) {
	counts := tally{}
	eachMade(t, 137, 150, 24, func(r *rand.Rand, p api.Pack, m *model) {
		in := inputs(m.fitting(someInputs(r, m))...)
		cells := m.computed()
		if len(cells) == 0 {
			return
		}
		for range 30 {
			x := traced(m.trace(in, pick(r, cells...))...)
			for range 1 + r.Intn(2) {
				if len(x.Nodes) > 0 {
					x = spoilt(r, m, x, in, counts)
				}
			}
			place, errno := m.check(in, x.Nodes)
			checks(t, "spoilt", p, in, x, place, errno)
			if own := m.own(in, x.Nodes); own != (errno == api.OK) {
				t.Fatalf("%+v: its own cell's trace: %t; error %d", x, own, errno)
			}
			prints(t, p, x, m.print(x.Nodes))
			counts[fmt.Sprint("error ", int(errno))]++
			if errno != api.OK && place > 0 {
				counts[fmt.Sprint("further on ", int(errno))]++
			}
			if errno == api.ErrTraceOrder && allRight(m, in, x.Nodes) {
				counts["all right, but for the walk"]++
			}
		}
	})
	counts.atLeast(t, 100, "error 0", "error 130", "error 132", "error 133", "further on 132", "further on 133", "all right, but for the walk")
	for _, b := range bends() {
		counts.atLeast(t, 100, b.name)
	}
}

// allRight: whether nothing is wrong with any node by itself.
func allRight(m *model, in *trie.Map, l []api.Node) bool {
	for i, n := range l {
		if m.step(in, l[:i], n) != api.OK {
			return false
		}
	}
	return true
}

// Of every trace: all fields of all nodes, each node left out, doubled at each place, each two changed.
func TestP13_7EveryOne(t *testing.T) {
	counts := tally{}
	eachMade(t, 1370, 40, 12, func(r *rand.Rand, p api.Pack, m *model) {
		in := inputs(m.fitting(someInputs(r, m))...)
		refused := func(what string, l []api.Node) {
			t.Helper()
			own := m.own(in, l)
			counts[fmt.Sprint(what, " ", own)]++
			if _, e := trace.Check(p, in, traced(l...)); own != (e == api.OK) {
				t.Fatalf("%s: %+v: error %d, its own cell's trace: %t", what, l, e, own)
			}
		}
		for _, cell := range m.some(r, 6) {
			x := m.trace(in, cell)
			if len(x) > 6 {
				continue
			}
			for i, n := range x {
				for _, k := range fields(n) {
					refused("field", slices.Concat(x[:i], []api.Node{k}, x[i+1:]))
				}
				refused("left out", slices.Concat(x[:i], x[i+1:]))
				for j := range len(x) + 1 {
					refused("doubled", slices.Insert(slices.Clone(x), j, n))
				}
				for j := range i {
					l := slices.Clone(x)
					l[i], l[j] = l[j], l[i]
					refused("changed", l)
				}
			}
		}
	})
	counts.atLeast(t, 30, "field false", "left out false", "left out true", "doubled false", "changed false")
	for _, what := range []string{"field true", "doubled true", "changed true"} {
		if counts[what] > 0 {
			t.Errorf("%s: %d times", what, counts[what])
		}
	}
}

// Whatever trace Check takes, its root has the cell's value, the clause that decides, and what the guards above it are worth.
func TestP13_6WhatIsTaken(t *testing.T) {
	counts := tally{}
	eachMade(t, 136, 120, 24, func(r *rand.Rand, p api.Pack, m *model) {
		in := inputs(m.fitting(someInputs(r, m))...)
		for _, cell := range m.some(r, 20) {
			x := traced(m.trace(in, cell)...)
			checks(t, "the one trace", p, in, x, 0, api.OK)
			root := x.Nodes[len(x.Nodes)-1]
			if v, e := m.eval.One(in, cell); root.Val != v || root.Cell != cell || e != api.OK {
				t.Errorf("the root of %d: %+v, One: %v, error %d", cell, root, v, e)
			}
			if place, _ := m.graph.Place(int(cell)); place.Kind == api.PlaceLine && root.Clause >= 0 {
				counts[guards(t, p.Lines[place.Index], root)]++
			}
		}
	})
	counts.atLeast(t, 50, "default, no guards", "default", "exception, first", "exception")
}

// guards asks whether a node names the guards above the clause that decides, none of them true, and its own, which is; it tells which kind of node it is.
func guards(t *testing.T, l api.Line, n api.Node) string {
	t.Helper()
	above := 0
	for _, c := range l.Clauses {
		if c.Priority > l.Clauses[n.Clause].Priority {
			above++
		}
	}
	asked := slices.Clone(n.Guards)
	kind := "default"
	if n.Clause > 0 {
		kind = "exception"
		if len(asked) == 0 || asked[len(asked)-1] != yes {
			t.Fatalf("%+v: its own guard", n)
		}
		asked = asked[:len(asked)-1]
	}
	if len(asked) != above || slices.ContainsFunc(asked, func(v api.Value) bool { return v != no }) {
		t.Errorf("%+v: %d guards above", n, above)
	}
	switch {
	case above == 0 && n.Clause == 0:
		return "default, no guards"
	case above == 0:
		return "exception, first"
	}
	return kind
}

// There is just one trace of a cell that is taken: nodes in another order that is a right one, too, aren't.
func TestP13_6JustOne(t *testing.T) {
	tried := 0
	eachMade(t, 1360, 200, 24, func(r *rand.Rand, p api.Pack, m *model) {
		in := inputs(m.fitting(someInputs(r, m))...)
		for _, cell := range m.some(r, 12) {
			x := m.trace(in, cell)
			l := m.shuffled(r, x)
			place, errno := m.check(in, l)
			if errno != api.OK {
				tried++
				if errno != api.ErrTraceOrder || !allRight(m, in, l) {
					t.Fatalf("%+v: %d, error %d", l, place, errno)
				}
			}
			if sameNodes(l, x) != (errno == api.OK) {
				t.Errorf("%+v: error %d", l, errno)
			}
			checks(t, "in another order", p, in, traced(l...), place, errno)
		}
	})
	if tried < 100 {
		t.Errorf("%d times", tried)
	}
}

// shuffled: the nodes of a trace in some order in which each stands behind those that it reads.
func (m *model) shuffled(r *rand.Rand, x []api.Node) []api.Node {
	var l []api.Node
	for len(l) < len(x) {
		n := pick(r, x...)
		ready := !slices.ContainsFunc(n.Reads, func(a api.Read) bool { return m.isComputed(a.Cell) && !has(l, a.Cell) })
		if ready && !has(l, n.Cell) {
			l = append(l, n)
		}
	}
	return l
}
