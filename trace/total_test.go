package trace_test

import (
	"math"
	"math/rand"
	"testing"

	"levy/api"
	"levy/trace"
)

// The chapter's words on memory, and on all arguments.

// greatest: 256 cells: four groups of eight rows, columns that sum columns ahead of them, also the one just ahead.
func greatest() api.Pack {
	p := api.Pack{Name: "great", Year: 2024}
	for i := range api.MaxGroups {
		p.Groups = append(p.Groups, api.Group{Name: named("g", i), Rows: api.MaxRows})
	}
	for i := range 28 {
		p.Lines = append(p.Lines, input(named("l", i), api.Cents, i%4))
		if i >= 4 {
			l := []api.Expr{sum(i - 1)}
			for j := range 5 {
				l = append(l, sum((7*i+j)%i))
			}
			p.Lines[i] = computed(named("l", i), api.Cents, i%4, op(api.OpMin, op(api.OpMax, l...), cents(1000000)))
		}
	}
	return p
}

// chain: a pack of lines of which each reads the one ahead of it, the first being an input.
func chain(lines int) api.Pack {
	p := flat(input(named("l", 0), api.Cents, -1))
	for i := 1; i < lines; i++ {
		p.Lines = append(p.Lines, computed(named("l", i), api.Cents, -1, op(api.OpMin, line(i-1), cents(1000))))
	}
	return p
}

func TestP13_3WhatIsHandedInStaysAsItIs(t *testing.T) {
	eachMade(t, 1303, 60, 16, func(r *rand.Rand, p api.Pack, m *model) {
		in := m.fitting(someInputs(r, m))
		roomy(&p)
		for _, cell := range m.some(r, 4) {
			x := traced(m.trace(inputs(in...), cell)...)
			if r.Intn(2) == 0 {
				x = spoilt(r, m, x, inputs(in...), tally{})
			}
			place, errno := m.check(inputs(in...), x.Nodes)
			text := m.print(x.Nodes)
			roomy(&x)
			was := laidOpen(&x) + laidOpen(&p)
			checks(t, "with spare room", p, inputs(in...), x, place, errno)
			prints(t, p, x, text)
			if laidOpen(&x)+laidOpen(&p) != was {
				t.Fatal("the trace or the pack is another one")
			}
		}
	})
}

func TestP13_3NilAndEmptyAreTheSame(t *testing.T) {
	p := example()
	p.Options, p.Tables, p.Checks, p.Lines[0].Clauses, p.Lines[1].Clauses = []api.Options{}, []api.Table{}, []api.Check{}, []api.Clause{}, []api.Clause{}
	a := traced(asking(creditNode(), []api.Value{}...), totalNode())
	a.Nodes[0].Guards = []api.Value{}
	for _, q := range []api.Pack{p, example()} {
		checks(t, "empty lists", q, inputs(nine()...), a, 0, api.OK)
		prints(t, q, a, trace.Print(example(), traced(creditNode(), totalNode())))
	}
	bare := flat(input("a", api.Cents, -1), computed("x", api.Cents, -1, cents(5)))
	for _, reads := range [][]api.Read{nil, {}} {
		x := traced(api.Node{Cell: 1, Val: cent(5), Reads: reads})
		checks(t, "no reads", bare, inputs(), x, 0, api.OK)
		prints(t, bare, x, "x = 0.05 by default\n")
	}
}

// A text that was told stays, whatever becomes of what it was told of.
func TestP13_4TheTextIsNotKept(t *testing.T) {
	p, x := example(), traced(creditNode(), totalNode())
	first := trace.Print(p, x)
	want := string([]byte(first))
	scribble(&p)
	scribble(&x)
	if first != want {
		t.Errorf("%q, was %q", first, want)
	}
	prints(t, example(), traced(creditNode(), totalNode()), want)
}

func TestP13_5TheGreatestPack(t *testing.T) {
	p := greatest()
	var l []api.Read
	for cell := range uint32(256) {
		if cell >= 28*8 {
			l = append(l, at(cell, yes))
		} else if cell < 4*8 {
			l = append(l, at(cell, cent(int64(cell))))
		}
	}
	model, m := modelOf(t, p), memo(t, p, l...)
	x := explained(t, m, 223)
	if !sameNodes(x.Nodes, model.trace(inputs(l...), 223)) || len(x.Nodes) < 100 {
		t.Errorf("%d nodes", len(x.Nodes))
	}
	checks(t, "the greatest", p, inputs(l...), x, 0, api.OK)
	prints(t, p, x, model.print(x.Nodes))
	for i := 0; i < len(x.Nodes); i += 7 {
		other := copied(x)
		other.Nodes[i].Val.Num++
		checks(t, "another value", p, inputs(l...), other, i, api.ErrTraceNode)
	}
}

// The longest chain of reads that fits: 47 computed lines, and a check at its end.
func TestP13_5TheDeepestPack(t *testing.T) {
	p := chain(api.MaxLines)
	p.Checks = []api.Check{{Name: "k", Group: -1, When: op(api.OpGt, line(api.MaxLines-1), cents(0)), Text: "so"}}
	x := explained(t, memo(t, p, at(0, cent(4))), 48)
	for i, n := range x.Nodes {
		if n.Cell != uint32(i+1) {
			t.Errorf("node %d is of cell %d", i, n.Cell)
		}
		checks(t, "up to here", p, inputs(at(0, cent(4))), traced(x.Nodes[:i+1]...), 0, api.OK)
		if i > 0 {
			checks(t, "from here on", p, inputs(at(0, cent(4))), traced(x.Nodes[i:]...), 0, api.ErrTraceOrder)
		}
	}
	if len(x.Nodes) != 48 {
		t.Errorf("%d nodes", len(x.Nodes))
	}
}

// strangeNode: a node of anything.
func strangeNode(r *rand.Rand) api.Node {
	n := api.Node{Cell: pick(r, uint32(r.Intn(10)), uint32(r.Intn(300)), math.MaxUint32), Val: odd(r), Clause: strange(r)}
	for range r.Intn(3) {
		n.Guards = append(n.Guards, odd(r))
	}
	for range r.Intn(4) {
		n.Reads = append(n.Reads, at(pick(r, uint32(r.Intn(10)), uint32(r.Intn(300)), math.MaxUint32), odd(r)))
	}
	return n
}

// Whatever a trace is made of: the answers are the model's.
func TestP13_3AllTraces(t *testing.T) {
	eachMade(t, 13030, 60, 16, func(r *rand.Rand, p api.Pack, m *model) {
		for range 20 {
			in := inputs(m.fitting(someInputs(r, m))...)
			if r.Intn(4) == 0 {
				in = in.Put(uint32(r.Intn(m.graph.Cells()+3)), odd(r))
			}
			var x api.Trace
			for range r.Intn(5) {
				x.Nodes = append(x.Nodes, strangeNode(r))
			}
			place, errno := m.check(in, x.Nodes)
			checks(t, "anything", p, in, x, place, errno)
			prints(t, p, x, m.print(x.Nodes))
		}
	})
}

// Of a pack that eval refuses what is answered is free; but the calls end.
func TestP13_3AnyPack(t *testing.T) {
	x := traced(creditNode(), totalNode(), strangeNode(rand.New(rand.NewSource(1))))
	bends := []func(p *api.Pack){
		func(p *api.Pack) { *p = api.Pack{} },
		func(p *api.Pack) { p.Lines[2].Clauses[0].Body = line(3) },
		func(p *api.Pack) { p.Lines[2].Clauses = nil },
		func(p *api.Pack) { p.Lines[1].Group = 9 },
		func(p *api.Pack) { p.Lines[0].Type, p.Lines[0].Options = api.Choice, math.MaxInt },
		func(p *api.Pack) { p.Groups[0].Rows = math.MaxInt },
		func(p *api.Pack) { p.Groups = nil },
		func(p *api.Pack) { scribble(p) },
	}
	for i, bend := range bends {
		p := example()
		bend(&p)
		for _, in := range []api.Trace{x, {}, traced(node(0, option(0), 0, at(1, option(1))))} {
			if _, e := trace.Check(p, inputs(nine()...), in); e == api.OK {
				t.Errorf("pack %d: taken", i)
			}
			trace.Print(p, in)
		}
	}
}

// No map at all counts as one without keys.
func TestP13_3NoMap(t *testing.T) {
	checks(t, "nil", example(), nil, traced(spare()), 0, api.OK)
	checks(t, "nil", example(), nil, traced(creditNode()), 0, api.ErrTraceNode)
	checks(t, "nil", example(), nil, api.Trace{}, 0, api.ErrTraceCell)
}
