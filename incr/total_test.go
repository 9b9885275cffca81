package incr_test

import (
	"math/rand"
	"slices"
	"sync"
	"testing"

	"levy/api"
	"levy/incr"
	"levy/trie"
)

// The chapter's words on memory, and on all arguments.

func TestP10_1ThePackStaysAsItIsAndIsNotKept(t *testing.T) {
	eachMade(t, 1010, 80, 16, func(r *rand.Rand, p api.Pack, m *model) {
		l := someInputs(r, m)
		first := made(t, p)
		first.Load(giving(l, new(int), new(int)))
		want := text(first)
		roomy(&p)
		was := laidOpen(&p)
		x := made(t, p)
		x.Load(giving(l, new(int), new(int)))
		got := text(x)
		if laidOpen(&p) != was {
			t.Fatal("the pack is another one")
		}
		scribble(&p)
		x.Load(nil)
		x.Load(giving(l, new(int), new(int)))
		if again := text(x); got != want || again != want {
			t.Errorf("%s, want %s, behind a scribble %s", got, want, again)
		}
	})
	p := allKinds()
	m := made(t, p)
	scribble(&p)
	set(t, m, 4, option(1), true)
	refuses(t, m, 4, option(2), api.ErrIncrInput)
	refuses(t, m, 0, num(1), api.ErrIncrInput)
	refuses(t, m, 15, cent(1), api.ErrIncrInput)
	get(t, m, 15, blank, 1)
}

func TestP10_1NilAndEmptyAreTheSame(t *testing.T) {
	p := example()
	p.Options, p.Tables, p.Checks, p.Lines[0].Clauses, p.Lines[1].Clauses = []api.Options{}, []api.Table{}, []api.Check{}, []api.Clause{}, []api.Clause{}
	p.Lines[3].Clauses[0].Body.Args = []api.Expr{}
	a, b := made(t, p), made(t, example())
	for _, m := range []*incr.Memo{a, b} {
		load(t, m, 3, at(0, cent(5)), at(1, num(3)), at(6, yes))
		get(t, m, 5, cent(200000), 2)
	}
	if text(a) != text(b) {
		t.Errorf("with empty lists: %s, with nil ones: %s", text(a), text(b))
	}
}

// Load takes a map of layer 3 as it is gone through, and two memos over one map have nothing in common.
func TestP10_3MapsOfLayer3(t *testing.T) {
	in := trie.Empty().Put(6, yes).Put(1, num(9)).Put(0, cent(5))
	was := slices.Collect(trie.Diff(trie.Empty(), in))
	a, b := made(t, example()), made(t, example())
	for _, m := range []*incr.Memo{a, b} {
		if n, e := m.Load(in.All()); n != 3 || e != api.OK {
			t.Errorf("Load: %d, error %d", n, e)
		}
	}
	set(t, a, 1, num(30), true)
	get(t, a, 5, cent(0), 2)
	get(t, b, 5, cent(200000), 2)
	if n, e := a.Load(in.From(6)); n != 2 || e != api.OK {
		t.Errorf("Load: %d, error %d", n, e)
	}
	if got := slices.Collect(trie.Diff(trie.Empty(), in)); !slices.Equal(got, was) {
		t.Errorf("the map: %v, was %v", got, was)
	}
}

// Memos are apart, also such as are made of one pack.
func TestP10_1MemosApart(t *testing.T) {
	p := example()
	a, b := made(t, p), made(t, p)
	was := text(b)
	load(t, a, 2, at(1, num(9)), at(6, yes))
	get(t, a, 5, cent(200000), 2)
	incr.New(api.Pack{})
	if text(b) != was {
		t.Errorf("%s, was %s", text(b), was)
	}
}

// Clones share nothing that a call writes to: they may be asked side by side.
func TestP10_8ClonesSideBySide(t *testing.T) {
	m := made(t, chain(40))
	load(t, m, 1, at(0, cent(5)))
	get(t, m, 39, cent(5), 39)
	var all sync.WaitGroup
	for i := range int64(8) {
		k := m.Clone()
		all.Go(func() {
			for n := range int64(30) {
				k.Set(0, cent(100*i+n))
				v, made, e := k.Get(39)
				if v != cent(min(1000, 100*i+n)) || made > 39 || e != api.OK {
					t.Errorf("clone %d: %v, %d, error %d", i, v, made, e)
				}
				if node, ok := k.Last(39); node.Val != v || !ok {
					t.Errorf("clone %d: %+v, %t", i, node, ok)
				}
				for cell := range k.Dirty() {
					t.Errorf("clone %d: %d is dirty", i, cell)
				}
			}
		})
	}
	all.Wait()
	get(t, m, 39, cent(5), 0)
	evals(t, m, 0, 1, 1)
}

// greatest: 256 cells: four groups of eight rows, columns that sum columns ahead of them.
func greatest() api.Pack {
	p := api.Pack{Name: "great", Year: 2024}
	for i := range api.MaxGroups {
		p.Groups = append(p.Groups, api.Group{Name: named("g", i), Rows: api.MaxRows})
	}
	for i := range 28 {
		p.Lines = append(p.Lines, input(named("l", i), api.Cents, i%4))
		if i >= 4 {
			var l []api.Expr
			for j := range 6 {
				l = append(l, sum((7*i+j)%i))
			}
			p.Lines[i] = computed(named("l", i), api.Cents, i%4, op(api.OpMin, op(api.OpMax, l...), cents(1000000)))
		}
	}
	return p
}

func TestP10_5TheGreatestPack(t *testing.T) {
	p := greatest()
	x := newPair(t, p, modelOf(t, p))
	var l []api.Read
	for cell := range uint32(256) {
		if cell >= 28*8 {
			l = append(l, at(cell, yes))
		} else if cell < 4*8 {
			l = append(l, at(cell, cent(int64(cell))))
		}
	}
	x.load(t, l)
	for _, cell := range []int{223, 255, 32, 0, 100, 224} {
		asked(t, "the greatest", x.memo, x.model, cell)
	}
	asModel(t, "the greatest", x.memo, x.model)
	refuses(t, x.memo, 256, blank, api.ErrIncrCell)
	x.set(t, 0, cent(1))
	x.set(t, 255, no)
	for cell := range 256 {
		asked(t, "the greatest, changed", x.memo, x.model, cell)
	}
	asModel(t, "the greatest, changed", x.memo, x.model)
	dirty(t, x.memo)
}

// The longest chain of reads that fits: 47 computed lines, and a check at its end.
func TestP10_5TheDeepestPack(t *testing.T) {
	p := chain(api.MaxLines)
	p.Checks = []api.Check{{Name: "k", Group: -1, When: op(api.OpGt, line(api.MaxLines-1), cents(0)), Text: "so"}}
	m := made(t, p)
	get(t, m, 48, needed, 48)
	set(t, m, 0, cent(4), true)
	get(t, m, 48, yes, 48)
	set(t, m, 0, cent(5), true)
	get(t, m, 48, yes, 48)
	set(t, m, 0, cent(-5), true)
	get(t, m, 48, no, 48)
}
