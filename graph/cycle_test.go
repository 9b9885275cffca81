package graph_test

import (
	"math/rand"
	"slices"
	"testing"

	"levy/api"
	"levy/graph"
)

// turned: the chapter's first example, changed.
func turned(does func(p *api.Pack)) api.Pack {
	p := example()
	does(&p)
	return p
}

func TestExamples2And3(t *testing.T) {
	cycles(t, "credit reads the total", turned(func(p *api.Pack) { p.Lines[2].Clauses[0].Body = op(api.OpMin, line(3), cents(100)) }), 3, 5)
	cycles(t, "a line that is itself", turned(func(p *api.Pack) { p.Lines[3].Clauses[0].Body = line(3) }), 5)
	cycles(t, "a line that is itself, alone", plain([]int{0}), 0)
}

func TestP8_8HangsOnItself(t *testing.T) {
	guarded := func(guard, body api.Expr) api.Clause {
		return api.Clause{Priority: 1, Guarded: true, Guard: guard, Body: body}
	}
	for _, c := range []struct {
		what string
		does func(p *api.Pack)
		want []int
	}{
		{"by a body that is never reached", func(p *api.Pack) { p.Lines[2].Clauses = append(p.Lines[2].Clauses, guarded(flag(0), line(3))) }, []int{3, 5}},
		{"by a guard", func(p *api.Pack) {
			p.Lines[3].Clauses = append(p.Lines[3].Clauses, guarded(op(api.OpGt, line(3), cents(0)), cents(0)))
		}, []int{5}},
		{"by an argument that is never reckoned", func(p *api.Pack) { p.Lines[3].Clauses[0].Body = op(api.OpIf, flag(1), cents(0), line(3)) }, []int{5}},
		{"by asking whether it is blank", func(p *api.Pack) {
			p.Lines[2].Clauses[0].Body = op(api.OpIf, op(api.OpIsBlank, line(2)), cents(0), cents(1))
		}, []int{3}},
		{"by its own group's sum", func(p *api.Pack) { p.Lines[2].Clauses[0].Body = sum(2) }, []int{3}},
		{"by its own group's least", func(p *api.Pack) { p.Lines[2].Clauses[0].Body = of(api.OpLeast, 2) }, []int{3}},
		{"by its own group's greatest", func(p *api.Pack) { p.Lines[2].Clauses[0].Body = of(api.OpGreatest, 2) }, []int{3}},
	} {
		cycles(t, c.what, turned(c.does), c.want...)
	}
	for _, o := range []int{api.OpAny, api.OpAll} {
		p := turned(func(p *api.Pack) { p.Lines[2] = computed("credit", api.Flag, 0, of(o, 2)) })
		p.Lines = p.Lines[:3]
		cycles(t, "a flag by its own group's", p, 3)
	}
	made(t, turned(func(p *api.Pack) { p.Lines[2].Clauses[0].Body = op(api.OpTimes, cents(5), of(api.OpUsed, 0)) }))
}

func TestP8_9Witness(t *testing.T) {
	for _, c := range []struct {
		what string
		p    api.Pack
		want []int
	}{
		{"two", plain([]int{1}, []int{0}), []int{0, 1}},
		{"a cell ahead reads the cycle, and isn't in it", plain([]int{1}, []int{2}, []int{1}), []int{1, 2}},
		{"a cell ahead reads itself too", plain([]int{2}, []int{1}, []int{3}, []int{2}), []int{1}},
		{"cells that the cycle reads aren't in it", plain(nil, []int{0, 2}, []int{1, 0}), []int{1, 2}},
		{"the shortest one, though it is by a greater cell", plain([]int{1, 3}, []int{2}, []int{0}, []int{0}), []int{0, 3}},
		{"the shortest one, though another cell's is shorter", plain([]int{1}, []int{2}, []int{2, 0}), []int{0, 1, 2}},
		{"itself ahead of all else", plain([]int{1, 0}, []int{0}), []int{0}},
		{"the least second cell", plain([]int{2, 3}, nil, []int{0}, []int{0}), []int{0, 2}},
		{"the least second cell leads nowhere", plain([]int{1, 2, 3}, nil, []int{0}, []int{0}), []int{0, 2}},
		{"the least second cell leads a longer way", plain([]int{1, 3}, []int{2}, []int{3}, []int{4}, []int{0}), []int{0, 3, 4}},
		{"the least second cell ahead of the least third", plain([]int{3, 4}, []int{0}, []int{0}, []int{2}, []int{1}), []int{0, 3, 2}},
		{"the least third cell", plain([]int{3}, []int{0}, []int{0}, []int{2, 1}), []int{0, 3, 1}},
		{"the least third cell, written first or last", plain([]int{3}, []int{0}, []int{0}, []int{1, 2}), []int{0, 3, 1}},
		{"two ways that meet again", plain([]int{1, 2}, []int{3}, []int{3}, []int{4, 5}, []int{0}, []int{0}), []int{0, 1, 3, 4}},
		{"two cycles apart", plain(nil, []int{2}, []int{1}, []int{4}, []int{3}), []int{1, 2}},
		{"all read all", plain([]int{0, 1, 2}, []int{0, 1, 2}, []int{0, 1, 2}), []int{0}},
		{"all read all others", plain([]int{1, 2}, []int{0, 2}, []int{0, 1}), []int{0, 1}},
	} {
		cycles(t, c.what, c.p, c.want...)
	}
}

func TestP8_9TheLongestWitness(t *testing.T) {
	var up, down []int
	for i := range api.MaxLines {
		up, down = append(up, i), append(down, (api.MaxLines-i)%api.MaxLines)
	}
	cycles(t, "each reads the next one", chain(api.MaxLines, 0), up...)
	reads := [][]int{{api.MaxLines - 1}}
	for i := range api.MaxLines - 1 {
		reads = append(reads, []int{i})
	}
	cycles(t, "each reads the one ahead", plain(reads...), down...)
	cycles(t, "a shorter one further down", chain(api.MaxLines, 40), up[40:]...)
}

func TestP8_9LastCells(t *testing.T) {
	p := full()
	p.Lines[25] = computed("last", api.Cents, 1, line(25))
	cycles(t, "a cell of the last line", p, 200)
	p = full()
	p.Lines[1].Clauses[0].Body = sum(25)
	p.Checks = nil
	m := modelOf(p)
	cycles(t, "all lines but the first", p, m.witness()...)
	if w := m.witness(); len(w) != 25 || w[0] != 8 {
		t.Errorf("the model's witness: %v", w)
	}
}

// exhaustive: the witness among all lists of unlike cells, the shorter ones first, of one length in the order of their cells.
func exhaustive(m model) []int {
	fits := func(l []int) bool {
		for i, cell := range l {
			if !m.reads[cell][l[(i+1)%len(l)]] {
				return false
			}
		}
		return true
	}
	for first := range m.places {
		lists := [][]int{{first}}
		for len(lists) > 0 {
			if at := slices.IndexFunc(lists, fits); at >= 0 {
				return lists[at]
			}
			var longer [][]int
			for _, l := range lists {
				for cell := range m.places {
					if !slices.Contains(l, cell) {
						longer = append(longer, append(slices.Clone(l), cell))
					}
				}
			}
			lists = longer
		}
	}
	return nil
}

// digraph: lines that read one another by the bits of a number.
func digraph(n int, bits uint64) api.Pack {
	reads := make([][]int, n)
	for i := range n * n {
		if bits>>i&1 == 1 {
			reads[i/n] = append(reads[i/n], i%n)
		}
	}
	return plain(reads...)
}

func TestP8_9EverySmallPack(t *testing.T) {
	r := rand.New(rand.NewSource(89))
	try := func(p api.Pack) {
		t.Helper()
		m := modelOf(p)
		want := exhaustive(m)
		if !slices.Equal(want, m.witness()) {
			t.Fatalf("the models differ: %v, %v", want, m.witness())
		}
		g, w, e := graph.New(p)
		if (len(want) > 0) != (e == api.ErrGraphCycle) || (len(want) > 0) != (g == nil) || !slices.Equal(w, want) {
			t.Fatalf("%+v: %v, error %d, want %v", p, w, e, want)
		}
	}
	for bits := range uint64(1 << 9) {
		try(digraph(3, bits))
	}
	for range 3000 {
		try(digraph(4, r.Uint64()&r.Uint64()))
		try(digraph(5, r.Uint64()&r.Uint64()&r.Uint64()))
		try(digraph(6, r.Uint64()&r.Uint64()&r.Uint64()))
	}
}

// ring: lines of which each reads the next one of some order, and some by chance, none by itself.
func ring(r *rand.Rand, n, more int) api.Pack {
	reads := make([][]int, n)
	turn := r.Perm(n)
	for i, cell := range turn {
		reads[cell] = append(reads[cell], turn[(i+1)%n])
	}
	for range more {
		a, b := r.Intn(n), r.Intn(n)
		if a != b && len(reads[a]) < 6 {
			reads[a] = append(reads[a], b)
		}
	}
	return plain(reads...)
}

func TestP8_9Rings(t *testing.T) {
	r := rand.New(rand.NewSource(890))
	lengths := map[int]bool{}
	for range 1500 {
		lengths[asModel(t, ring(r, 2+r.Intn(40), r.Intn(12)))] = true
	}
	if len(lengths) < 25 {
		t.Errorf("too few lengths: %v", lengths)
	}
}

// layered: a cycle through layers of lines, each of which reads some of the next layer: many shortest ways.
func layered(r *rand.Rand) api.Pack {
	layers := 2 + r.Intn(6)
	var at [][]int
	turn := r.Perm(40)
	for i := range layers {
		at = append(at, turn[i*5:i*5+1+r.Intn(5)])
	}
	reads := make([][]int, 40)
	for i, l := range at {
		for _, cell := range l {
			for _, next := range at[(i+1)%layers] {
				if r.Intn(2) == 0 {
					reads[cell] = append(reads[cell], next)
				}
			}
		}
	}
	return plain(reads...)
}

func TestP8_9ManyShortestWays(t *testing.T) {
	r := rand.New(rand.NewSource(891))
	found := 0
	for range 1500 {
		if asModel(t, layered(r)) > 0 {
			found++
		}
	}
	if found < 500 {
		t.Errorf("%d witnesses: too few", found)
	}
}

func TestP8_13LinesAheadMakeNoCycle(t *testing.T) {
	r := rand.New(rand.NewSource(813))
	for range 300 {
		p := madePack(r, 48, shape{3, 100, 20})
		for i, l := range p.Lines {
			if l.Input {
				continue
			}
			m := &maker{Rand: r, pack: p, shape: shape{3, 0, 10}, group: l.Group, left: api.MaxNodes, ahead: func(n int) bool { return n < i }}
			p.Lines[i].Clauses = []api.Clause{{Body: m.expr(kind{l.Type, l.Options})}, {Priority: 3, Guarded: true, Guard: m.expr(kinds[2]), Body: m.expr(kind{l.Type, l.Options})}}
		}
		made(t, p)
	}
}

// rows: two computed lines of cents of a group of three rows, and a third of no group; the cells are 0 1 2, 3 4 5 and 6.
func rows(a, b, c api.Expr) api.Pack {
	return api.Pack{
		Name: "rows", Year: 2024, Groups: []api.Group{{Name: "kid", Rows: 3}},
		Lines: []api.Line{computed("a", api.Cents, 0, a), computed("b", api.Cents, 0, b), computed("c", api.Cents, -1, c)},
	}
}

func TestP8_13Rows(t *testing.T) {
	cycles(t, "each row by itself", rows(line(1), line(0), cents(0)), 0, 3)
	cycles(t, "over all rows and back", rows(sum(1), line(0), cents(0)), 0, 3)
	cycles(t, "over no group", rows(line(1), line(2), sum(0)), 0, 3, 6)
	cycles(t, "over no group alone", rows(sum(1), line(2), line(2)), 6)
	cycles(t, "over no group, begun there", rows(cents(0), line(2), sum(1)), 3, 6)
	made(t, rows(line(1), cents(0), sum(0)))
	made(t, rows(sum(1), cents(0), sum(0)))
	made(t, rows(line(2), sum(0), cents(0)))
	g := made(t, rows(line(1), line(2), cents(0)))
	gives(t, "the own row alone", g.Reads(1), 4, 8)
	g = made(t, rows(sum(1), line(2), cents(0)))
	gives(t, "all rows", g.Reads(1), 3, 4, 5, 7, 8, 9)
}
