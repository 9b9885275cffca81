package eval_test

import (
	"fmt"
	"math"
	"math/rand"
	"slices"
	"testing"

	"levy/api"
	"levy/eval"
	"levy/graph"
	"levy/money"
	"levy/trie"
	"levy/types"
)

// P9.9 by cases, and all promises by packs, inputs and readers that chance makes, held against the model.

var shapes = []shape{{3, 0, 10}, {4, 0, 20}, {2, 0, 5}, {5, 0, 30}}

// eachMade calls do with packs without cycles.
func eachMade(t *testing.T, seed int64, many, lines int, do func(r *rand.Rand, p api.Pack, v *eval.Eval, g *graph.Graph)) {
	t.Helper()
	r := rand.New(rand.NewSource(seed))
	for i := range many {
		p := madePack(r, lines, shapes[i%len(shapes)])
		if do(r, p, made(t, p), madeGraph(t, p)); t.Failed() {
			t.Fatalf("the pack: %+v", p)
		}
	}
}

// byCell: a map as the model takes it.
func byCell(in *trie.Map) map[int]api.Value {
	m := map[int]api.Value{}
	for id, x := range in.All() {
		m[int(id)] = x
	}
	return m
}

// tally counts what came about, so that chance leaves nothing out.
type tally map[string]int

func (c tally) value(x api.Value) {
	if c[fmt.Sprint("kind ", x.Kind)]++; x.Kind == api.Fault {
		c[fmt.Sprint("fault ", x.Num)]++
	}
}

func (c tally) expr(e api.Expr) {
	c[fmt.Sprint("operator ", e.Op)]++
	for _, a := range e.Args {
		c.expr(a)
	}
}

func (c tally) pack(p api.Pack) {
	for _, l := range p.Lines {
		for _, x := range l.Clauses {
			c.expr(x.Body)
			if x.Guarded {
				c.expr(x.Guard)
			}
		}
	}
}

func (c tally) atLeast(t *testing.T, n int, what string, from, to int) {
	t.Helper()
	for i := from; i <= to; i++ {
		if c[fmt.Sprint(what, " ", i)] < n {
			t.Errorf("%s %d came about %d times", what, i, c[fmt.Sprint(what, " ", i)])
		}
	}
}

func TestP9_4CellsAsTheModel(t *testing.T) {
	counts := tally{}
	eachMade(t, 94, 500, 24, func(r *rand.Rand, p api.Pack, v *eval.Eval, g *graph.Graph) {
		counts.pack(p)
		for range 3 {
			in := madeInputs(r, p, v)
			want := model{p, g}.holds(byCell(in))
			for _, x := range want {
				counts.value(x)
			}
			if got := v.All(in); !slices.Equal(got, want) {
				t.Errorf("All: %v, want %v", got, want)
			}
			for range 5 {
				cell := r.Intn(len(want))
				if x, e := v.One(in, uint32(cell)); x != want[cell] || e != api.OK {
					t.Errorf("One(%d): %v, error %d, want %v", cell, x, e, want[cell])
				}
			}
		}
	})
	counts.atLeast(t, 100, "operator", api.OpCents, api.OpDays)
	counts.atLeast(t, 100, "kind", api.Blank, api.Fault)
	counts.atLeast(t, 100, "fault", api.Over, api.Range)
}

func TestP9_8NodesAsTheModel(t *testing.T) {
	counts := tally{}
	eachMade(t, 98, 500, 24, func(r *rand.Rand, p api.Pack, v *eval.Eval, g *graph.Graph) {
		l := oddValues(r, p, g)
		for cell := range uint32(len(l) + 2) {
			var calls []uint32
			got := v.With(cell, func(c uint32) api.Value {
				calls = append(calls, c)
				return l[c]
			})
			want := model{p, g}.node(cell, from(l))
			if !sameNode(got, want) {
				t.Errorf("With(%d): %+v, want %+v", cell, got, want)
			}
			if !slices.EqualFunc(calls, want.Reads, func(c uint32, r api.Read) bool { return c == r.Cell }) {
				t.Errorf("With(%d) calls for %v, want %v", cell, calls, want.Reads)
			}
			counts.value(got.Val)
			counts[fmt.Sprint("clause ", got.Clause)]++
			counts[fmt.Sprint("guards ", len(got.Guards))]++
		}
	})
	counts.atLeast(t, 100, "fault", api.Over, api.Wrong)
	counts.atLeast(t, 50, "clause", -1, 4)
	counts.atLeast(t, 50, "guards", 0, 4)
}

func TestP9_10HoldsWhatWithTells(t *testing.T) {
	eachMade(t, 910, 150, 24, func(r *rand.Rand, p api.Pack, v *eval.Eval, g *graph.Graph) {
		all := v.All(madeInputs(r, p, v))
		m := model{p, g}
		for cell := range all {
			if !m.isInput(cell) && v.With(uint32(cell), from(all)).Val != all[cell] {
				t.Errorf("cell %d: With: %v, All: %v", cell, v.With(uint32(cell), from(all)).Val, all[cell])
			}
		}
	})
}

func TestP9_11HangsOnReadsAlone(t *testing.T) {
	moved := 0
	eachMade(t, 911, 150, 24, func(r *rand.Rand, p api.Pack, v *eval.Eval, g *graph.Graph) {
		l := oddValues(r, p, g)
		for cell := range uint32(len(l)) {
			n := v.With(cell, from(l))
			may := slices.Collect(g.Reads(int(cell)))
			other := oddValues(r, p, g)
			for _, read := range n.Reads {
				other[read.Cell] = l[read.Cell]
				if !slices.Contains(may, int(read.Cell)) {
					t.Errorf("cell %d reads %d, and may read %v", cell, read.Cell, may)
				}
			}
			if got := v.With(cell, from(other)); !sameNode(got, n) {
				t.Errorf("With(%d): %+v, and by another reader %+v", cell, n, got)
			}
			if len(n.Reads) < len(may) {
				moved++
			}
		}
	})
	if moved < 1000 {
		t.Errorf("%d cells left something unread", moved)
	}
}

func TestP9_12KindsOfWhatCellsHold(t *testing.T) {
	eachMade(t, 912, 200, 24, func(r *rand.Rand, p api.Pack, v *eval.Eval, g *graph.Graph) {
		for cell, x := range v.All(madeInputs(r, p, v)) {
			if x.Kind == api.Fault && x != wrong && money.Valid(x) {
				continue
			}
			place, _ := g.Place(cell)
			ok := x == yes || x == no
			switch place.Kind {
			case api.PlaceLine:
				ok = types.Fits(p, place.Index, x)
			case api.PlaceCheck:
				ok = ok || x == blank
			}
			if !ok || !money.Valid(x) {
				t.Errorf("cell %d (%v) holds %v", cell, place, x)
			}
		}
	})
}

func TestP9_13InputsThatAreNotNeeded(t *testing.T) {
	unlike := 0
	eachMade(t, 913, 150, 24, func(r *rand.Rand, p api.Pack, v *eval.Eval, g *graph.Graph) {
		a, b := madeInputs(r, p, v), madeInputs(r, p, v)
		for range 6 {
			cell := r.Intn(g.Cells())
			mixed := b
			for c := range g.Need(cell) {
				if x, ok := a.Get(uint32(c)); ok {
					mixed = mixed.Put(uint32(c), x)
				} else {
					mixed = mixed.Drop(uint32(c))
				}
			}
			if v.Fits(mixed) != api.OK { // a value is left in a row whose flag is needed and not set
				continue
			}
			x, e := v.One(a, uint32(cell))
			if y, f := v.One(mixed, uint32(cell)); x != y || e != api.OK || f != api.OK {
				t.Errorf("One(%d): %v, error %d, and over other inputs %v, error %d", cell, x, e, y, f)
			}
			if !slices.Equal(v.All(a), v.All(mixed)) {
				unlike++
			}
		}
	})
	if unlike < 100 {
		t.Errorf("%d times something else was another thing", unlike)
	}
}

func TestP9_9Expr(t *testing.T) {
	v := made(t, example())
	in := inputs(at(6, yes), at(1, num(9)), at(0, cent(1000)))
	for _, c := range []struct {
		group, row int
		e          api.Expr
		want       api.Value
	}{
		{-1, 0, op(api.OpAdd, line(0), cents(5)), cent(1005)},
		{-1, 9, line(0), cent(1000)}, {-1, -1, line(0), cent(1000)}, {-1, math.MinInt, line(3), cent(200000)}, {-1, math.MaxInt, of(api.OpUsed, 0), num(1)},
		{0, 0, line(0), cent(1000)}, {0, 1, line(0), cent(1000)}, {0, 0, line(1), num(9)}, {0, 0, line(2), cent(200000)}, {0, 0, sum(2), cent(200000)},
		// The row's flag isn't asked: in a row that isn't used cells are Blank, and an expression isn't.
		{0, 1, line(1), blank}, {0, 1, line(2), blank}, {0, 1, cents(3), cent(3)}, {0, 1, op(api.OpIsBlank, line(1)), yes}, {0, 1, op(api.OpElse, line(1), count(3)), num(3)}, {0, 1, op(api.OpNeg, line(1)), needed},
		{0, 2, cents(3), wrong}, {0, -1, cents(3), wrong}, {0, math.MaxInt, cents(3), wrong}, {1, 0, cents(3), wrong}, {-2, 0, cents(3), wrong}, {-2, 0, line(0), wrong}, {math.MaxInt, 0, cents(3), wrong}, {math.MinInt, 0, cents(3), wrong},
		{-1, 0, line(1), wrong}, {-1, 0, line(4), wrong}, {-1, 0, line(-1), wrong}, {-1, 0, api.Expr{}, wrong}, {-1, 0, op(api.OpAdd, line(0), count(1)), wrong}, {-1, 0, op(api.OpAdd, line(0)), wrong},
		{-1, 0, cents(api.MaxCents + 1), wrong}, {-1, 0, of(api.OpBracket, 0, line(0)), wrong}, {-1, 0, of(api.OpUsed, 1), wrong}, {-1, 0, op(99), wrong}, {-1, 0, op(math.MinInt), wrong}, {-1, 0, choice(0, 0), wrong},
	} {
		if x := v.Expr(in, c.group, c.row, c.e); x != c.want {
			t.Errorf("Expr(%d, %d, %+v): %v, want %v", c.group, c.row, c.e, x, c.want)
		}
	}
	for _, l := range [][]api.Read{{at(1, num(9))}, {at(0, blank)}, {at(99, yes)}} {
		if x := v.Expr(inputs(l...), -1, 0, cents(1)); x != wrong {
			t.Errorf("over %v: %v", l, x)
		}
	}
}

func TestP9_9ExprAsTheModel(t *testing.T) {
	eachMade(t, 99, 300, 16, func(r *rand.Rand, p api.Pack, v *eval.Eval, g *graph.Graph) {
		in := madeInputs(r, p, v)
		all := v.All(in)
		for range 10 {
			group, row := r.Intn(len(p.Groups)+1)-1, 0
			if group >= 0 {
				row = r.Intn(p.Groups[group].Rows)
			}
			m := &maker{Rand: r, pack: p, shape: shape{4, 0, 10}, group: group, left: api.MaxNodes, ahead: func(int) bool { return true }}
			e := m.expr(pick(r, kinds...))
			a := &asking{model: model{p, g}, row: row, read: from(all)}
			if x, want := v.Expr(in, group, row, e), a.expr(e); x != want {
				t.Errorf("Expr(%d, %d, %+v): %v, want %v", group, row, e, x, want)
			}
		}
	})
}
