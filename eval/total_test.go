package eval_test

import (
	"fmt"
	"math/rand"
	"slices"
	"sync"
	"testing"

	"levy/api"
	"levy/eval"
	"levy/graph"
	"levy/trie"
)

// The chapter's words on memory, and on what changes.

func TestP9_1ThePackStaysAsItIsAndIsNotKept(t *testing.T) {
	eachMade(t, 920, 100, 16, func(r *rand.Rand, p api.Pack, first *eval.Eval, _ *graph.Graph) {
		in := madeInputs(r, p, first)
		want := text(first, in)
		roomy(&p)
		was := laidOpen(&p)
		v := made(t, p)
		got := text(v, in)
		if laidOpen(&p) != was {
			t.Fatal("the pack is another one")
		}
		scribble(&p)
		if again := text(v, in); got != want || again != want {
			t.Errorf("%s, want %s, behind a scribble %s", got, want, again)
		}
	})
	p := bench(of(api.OpBracket, 1, line(lineC)))
	v := made(t, p)
	in := inputs(at(lineO, option(2)), at(lineC, cent(1000002)), at(flags, yes))
	want := text(v, in)
	if scribble(&p); text(v, in) != want {
		t.Error("the bands or the options are the pack's own")
	}
}

func TestP9_9TheExpressionStaysAsItIs(t *testing.T) {
	p := bench(cents(1))
	v := made(t, p)
	in := inputs(at(lineC, cent(7)), at(flags, yes), at(12, cent(9)))
	for _, e := range []api.Expr{
		op(api.OpAdd, line(lineC), op(api.OpNeg, sum(kidC)), cents(100)), of(api.OpBracket, 1, op(api.OpMax, line(lineC), cents(5))), op(api.OpAdd, op(api.OpNeg, line(99)), cents(1)),
	} {
		roomy(&e)
		was := laidOpen(&e)
		x := v.Expr(in, -1, 0, e)
		if y := v.Expr(in, -1, 0, e); x != y || laidOpen(&e) != was {
			t.Errorf("%v, then %v; %s, was %s", x, y, laidOpen(&e), was)
		}
	}
}

func TestP9_5AllIsNewMemory(t *testing.T) {
	v := made(t, example())
	in := inputs(at(6, yes), at(1, num(9)))
	a, b := v.All(in), v.All(in)
	want, was := slices.Clone(b), text(v, in)
	a = a[:cap(a)]
	for i := range a {
		a[i] = val(-9, -9)
	}
	if !slices.Equal(b, want) || text(v, in) != was {
		t.Error("what All told is kept")
	}
}

func TestP9_8NodesAreNewMemory(t *testing.T) {
	v := made(t, guarded())
	w := made(t, example())
	for _, c := range []struct {
		v    *eval.Eval
		cell uint32
		x    api.Value
	}{{v, 5, no}, {v, 5, yes}, {w, 5, yes}, {w, 3, yes}, {w, 0, yes}} {
		tell := func(uint32) api.Value { return c.x }
		a, b := c.v.With(c.cell, tell), c.v.With(c.cell, tell)
		want := fmt.Sprintf("%+v", b)
		scribble(&a)
		if got := fmt.Sprintf("%+v", b); got != want {
			t.Errorf("two nodes share memory: %s, want %s", got, want)
		}
		if got := fmt.Sprintf("%+v", c.v.With(c.cell, tell)); got != want {
			t.Errorf("what With told is kept: %s, want %s", got, want)
		}
		a = c.v.With(c.cell, tell)
		was := slices.Clone(a.Reads)
		for i := range a.Guards[:cap(a.Guards)] {
			a.Guards[:cap(a.Guards)][i] = val(-9, -9)
		}
		if !slices.Equal(a.Reads, was) {
			t.Error("a node's lists share memory")
		}
	}
}

func TestP9_3TheMapStaysAsItIs(t *testing.T) {
	v := made(t, example())
	in := inputs(at(6, yes), at(1, num(9)))
	was := slices.Collect(trie.Diff(trie.Empty(), in))
	text(v, in)
	if got := slices.Collect(trie.Diff(trie.Empty(), in)); !slices.Equal(got, was) {
		t.Errorf("%v, was %v", got, was)
	}
}

// An Eval changes by no call, and two of them have nothing in common.
func TestP9_1EvalsApart(t *testing.T) {
	in := inputs(at(0, cent(3)))
	a, b := made(t, example()), made(t, guarded())
	was, wasB := text(a, in), text(b, inputs(at(1, yes)))
	text(a, inputs(at(6, yes)))
	text(a, inputs(at(99, yes)))
	eval.New(api.Pack{})
	eval.New(turned(func(p *api.Pack) { p.Lines[3].Clauses[0].Body = line(3) }))
	if text(a, in) != was || text(b, inputs(at(1, yes))) != wasB || text(made(t, example()), in) != was {
		t.Error("an Eval is another one")
	}
}

// A reader may ask the same Eval, as one does that brings cells up to date.
func TestP9_8ReadersThatAsk(t *testing.T) {
	eachMade(t, 921, 60, 16, func(r *rand.Rand, p api.Pack, v *eval.Eval, g *graph.Graph) {
		in := madeInputs(r, p, v)
		all := v.All(in)
		m := model{p, g}
		var deep func(cell uint32) api.Value
		deep = func(cell uint32) api.Value {
			v.Fits(in)
			if m.isInput(int(cell)) {
				return all[cell]
			}
			return v.With(cell, deep).Val
		}
		for cell, x := range all {
			if g.Rank(cell) > 4 { // what isn't remembered is reckoned over and over
				continue
			}
			if deep(uint32(cell)) != x {
				t.Errorf("cell %d: %v, want %v", cell, deep(uint32(cell)), x)
			}
		}
	})
}

func TestP9_1OneEvalForMany(t *testing.T) {
	v := made(t, example())
	in := inputs(at(6, yes), at(7, yes), at(1, num(9)), at(2, num(3)))
	want := text(v, in)
	got := make([]string, 8)
	var all sync.WaitGroup
	for i := range got {
		all.Go(func() { got[i] = text(v, in) })
	}
	all.Wait()
	for _, s := range got {
		if s != want {
			t.Errorf("%s, want %s", s, want)
		}
	}
}

// The greatest pack: 256 cells, columns that are summed over and over.
func TestP9_5TheGreatestPack(t *testing.T) {
	p := api.Pack{Name: "great", Year: 2024}
	for i := range api.MaxGroups {
		p.Groups = append(p.Groups, api.Group{Name: named("g", i), Rows: 8})
	}
	for i := range 28 {
		p.Lines = append(p.Lines, input(named("l", i), api.Cents, i%4))
		if i >= 4 {
			p.Lines[i] = computed(named("l", i), api.Cents, i%4, op(api.OpMin, wide(i), cents(1000000)))
		}
	}
	v := made(t, p)
	in := inputs()
	for cell := range uint32(256) {
		if cell >= 28*8 {
			in = in.Put(cell, yes)
		} else if cell < 4*8 {
			in = in.Put(cell, cent(int64(cell)))
		}
	}
	all := v.All(in)
	if len(all) != 256 || !slices.Equal(all, (model{p, madeGraph(t, p)}).holds(byCell(in))) {
		t.Errorf("%d values: %v", len(all), all)
	}
	if x, e := v.One(in, 223); x != all[223] || e != api.OK {
		t.Errorf("%v, error %d", x, e)
	}
}

// wide: the sums of all lines ahead of one, over and over: 43 nodes.
func wide(line int) api.Expr {
	e := op(api.OpAdd)
	for i := range 6 {
		var l []api.Expr
		for j := range 6 {
			l = append(l, sum((7*i+j)%line))
		}
		e.Args = append(e.Args, op(api.OpMax, l...))
	}
	return e
}
