package trace_test

import (
	"math"
	"slices"
	"testing"

	"levy/api"
	"levy/incr"
	"levy/trace"
)

// creditNode and totalNode: the two nodes of the chapter's first example.
func creditNode() api.Node { return node(3, cent(200000), 0, at(6, yes), at(1, num(9))) }

func totalNode() api.Node {
	return node(5, cent(200000), 0, at(6, yes), at(3, cent(200000)), at(7, no))
}

// nine: the chapter's inputs: the row 0 of kid used, its age 9.
func nine() []api.Read { return []api.Read{at(1, num(9)), at(6, yes)} }

func TestP13_1Examples(t *testing.T) {
	m := memo(t, example(), nine()...)
	explains(t, m, 5, creditNode(), totalNode())
	explains(t, m, 3, creditNode())
	explains(t, m, 4, node(4, blank, -1, at(7, no)))
}

func TestP13_2ExamplesOfErrors(t *testing.T) {
	refuses(t, memo(t, example(), nine()...), 1, 6, 8)
}

// web: lines of no group that read each other across: 0 a, an input of cents; 1 f, an input flag; 2 to 7 computed: w = max(z, x, y), x = a, y = x + x, z = y + v, v = a, and u, which is read where f holds.
func web() api.Pack {
	w := computed("w", api.Cents, -1, op(api.OpMax, line(5), line(3), line(4)))
	w.Clauses = append(w.Clauses, exception(2, line(1), op(api.OpAdd, line(7), line(6))))
	return flat(
		input("a", api.Cents, -1), input("f", api.Flag, -1), w,
		computed("x", api.Cents, -1, line(0)), computed("y", api.Cents, -1, op(api.OpAdd, line(3), line(3))),
		computed("z", api.Cents, -1, op(api.OpAdd, line(4), line(6))), computed("v", api.Cents, -1, line(0)), computed("u", api.Cents, -1, op(api.OpNeg, line(0))),
	)
}

// The walk goes down by the order of reading, leaves each cell behind those that it reads, and none twice.
func TestP13_1Order(t *testing.T) {
	five, ten, fifteen, less := cent(5), cent(10), cent(15), cent(-5)
	x, y := node(3, five, 0, at(0, five)), node(4, ten, 0, at(3, five))
	v, u := node(6, five, 0, at(0, five)), node(7, less, 0, at(0, five))
	z := node(5, fifteen, 0, at(4, ten), at(6, five))
	m := memo(t, web(), at(0, five), at(1, no))
	explains(t, m, 2, x, y, v, z, asking(node(2, fifteen, 0, at(1, no), at(5, fifteen), at(3, five), at(4, ten)), no))
	explains(t, m, 5, x, y, v, z)
	explains(t, m, 4, x, y)
	m = memo(t, web(), at(0, five), at(1, yes))
	explains(t, m, 2, u, v, asking(node(2, cent(0), 1, at(1, yes), at(7, less), at(6, five)), yes))
	m = memo(t, web(), at(0, five))
	explains(t, m, 2, asking(node(2, needed, -1, at(1, blank)), blank))
	m = memo(t, web(), at(1, no))
	x, y = node(3, blank, 0, at(0, blank)), node(4, needed, 0, at(3, blank))
	explains(t, m, 2, x, y, node(5, needed, 0, at(4, needed)), asking(node(2, needed, 0, at(1, no), at(5, needed)), no))
}

// Guards too may read computed cells, and are walked ahead of what the body reads.
func TestP13_1GuardsAreWalkedFirst(t *testing.T) {
	x := computed("x", api.Cents, -1, line(1))
	x.Clauses = append(x.Clauses, exception(3, line(2), cents(3)), exception(9, line(3), cents(9)))
	p := flat(input("a", api.Cents, -1), computed("b", api.Cents, -1, line(0)), computed("low", api.Flag, -1, op(api.OpLt, line(0), cents(0))), computed("high", api.Flag, -1, op(api.OpGt, line(0), cents(9))), x)
	m := memo(t, p, at(0, cent(4)))
	b, low, high := node(1, cent(4), 0, at(0, cent(4))), node(2, no, 0, at(0, cent(4))), node(3, no, 0, at(0, cent(4)))
	explains(t, m, 4, high, low, b, asking(node(4, cent(4), 0, at(3, no), at(2, no), at(1, cent(4))), no, no))
	m = memo(t, p, at(0, cent(-4)))
	high, low = node(3, no, 0, at(0, cent(-4))), node(2, yes, 0, at(0, cent(-4)))
	explains(t, m, 4, high, low, asking(node(4, cent(3), 1, at(3, no), at(2, yes)), no, yes))
	m = memo(t, p, at(0, cent(10)))
	explains(t, m, 4, node(3, yes, 0, at(0, cent(10))), asking(node(4, cent(9), 2, at(3, yes)), yes))
}

func TestP13_1Checks(t *testing.T) {
	p := allKinds()
	p.Checks[0].When = op(api.OpGt, line(11), line(10))
	p.Checks[1].When = op(api.OpGt, line(10), sum(11))
	m := memo(t, p, at(0, cent(7)), at(6, cent(8)), at(19, yes))
	x, kx := node(15, cent(7), 0, at(0, cent(7))), node(17, cent(8), 0, at(19, yes), at(6, cent(8)))
	explains(t, m, 21, node(21, blank, -1, at(18, no)))
	explains(t, m, 22, kx, x, node(22, yes, -1, at(19, yes), at(17, cent(8)), at(15, cent(7))))
	explains(t, m, 23, x, kx, node(23, no, -1, at(15, cent(7)), at(18, no), at(19, yes), at(17, cent(8))))
}

func TestP13_2NoComputedCell(t *testing.T) {
	m := memo(t, allKinds(), at(0, cent(5)), at(18, yes))
	for cell := range uint32(15) {
		refuses(t, m, cell)
	}
	refuses(t, m, 18, 19, 20, 24, 25, 255, 256, 1<<31, math.MaxUint32-1, math.MaxUint32)
	explains(t, m, 15, node(15, cent(5), 0, at(0, cent(5))))
	refuses(t, m, 0, 24)
}

// Explain does to the memo what Get does, no more and no less.
func TestP13_2TheMemoIsAsked(t *testing.T) {
	m := memo(t, example(), nine()...)
	asked := m.Clone()
	step := func(cell uint32) {
		t.Helper()
		asked.Get(cell)
		explained(t, m, cell)
		if state(m) != state(asked) {
			t.Errorf("behind Explain(%d): %s, behind Get: %s", cell, state(m), state(asked))
		}
	}
	step(5)
	if got := slices.Collect(m.Dirty()); !slices.Equal(got, []uint32{4}) || m.Evals(3) != 1 || m.Evals(5) != 1 {
		t.Errorf("dirty: %v; evaluations: %d, %d", got, m.Evals(3), m.Evals(5))
	}
	step(5)
	for _, x := range []*incr.Memo{m, asked} {
		x.Set(1, num(10))
	}
	step(5)
	if m.Evals(3) != 2 || m.Evals(5) != 1 {
		t.Errorf("evaluations: %d, %d, want 2, 1", m.Evals(3), m.Evals(5))
	}
	explains(t, m, 5, node(3, cent(200000), 0, at(6, yes), at(1, num(10))), totalNode())
	for _, x := range []*incr.Memo{m, asked} {
		x.Set(6, no)
	}
	step(4)
	step(5)
	explains(t, m, 5, node(5, cent(0), 0, at(6, no), at(7, no)))
}

// Values in rows that aren't used aren't read, so they don't show.
func TestP13_2InputsOfUnusedRows(t *testing.T) {
	l := append(nine(), at(2, num(30)))
	m := memo(t, example(), at(1, num(9)), at(2, num(30)), at(6, yes))
	explains(t, m, 5, creditNode(), totalNode())
	explains(t, m, 4, node(4, blank, -1, at(7, no)))
	x := explained(t, m, 5)
	checks(t, "inputs of an unused row", example(), inputs(l...), x, 0, api.ErrTraceInput)
	checks(t, "without them", example(), inputs(nine()...), x, 0, api.OK)
}

func TestP13_2NewMemory(t *testing.T) {
	m := memo(t, web(), at(0, cent(5)), at(1, no))
	first, second := explained(t, m, 2), explained(t, m, 2)
	was := state(m)
	apart(t, &struct{ A, B api.Trace }{first, second})
	scribble(&first)
	if state(m) != was {
		t.Errorf("the memo: %s, was %s", state(m), was)
	}
	third := explained(t, m, 2)
	if !sameNodes(second.Nodes, third.Nodes) || has(third.Nodes, 987654321) {
		t.Errorf("%+v, told ahead of it %+v", third, second)
	}
	scribble(&third)
	m.Set(0, cent(6))
	if x := explained(t, m, 3); !sameNodes(x.Nodes, []api.Node{node(3, cent(6), 0, at(0, cent(6)))}) {
		t.Errorf("%+v", x)
	}
	if !sameNode(second.Nodes[0], node(3, cent(5), 0, at(0, cent(5)))) {
		t.Errorf("an earlier answer is another one now: %+v", second)
	}
}

// What is explained hangs on the memo that is asked, on no other one.
func TestP13_2MemosApart(t *testing.T) {
	a := memo(t, example(), nine()...)
	b := a.Clone()
	b.Set(1, num(40))
	explains(t, b, 3, node(3, cent(0), 0, at(6, yes), at(1, num(40))))
	explains(t, a, 3, creditNode())
	if x, e := trace.Explain(nil, 3); len(x.Nodes) != 0 || e != api.ErrTraceCell {
		t.Errorf("of no memo: %+v, error %d", x, e)
	}
}
