package merge_test

import (
	"math"
	"math/rand"
	"slices"
	"sync"
	"testing"

	"levy/api"
	"levy/merge"
	"levy/trie"
)

// The chapter's words on memory, and on all arguments.

func TestP15_3NilMaps(t *testing.T) {
	p := example()
	for _, none := range []*trie.Map{nil, trie.Empty()} {
		m, c := merge.Merge(p, none, none, none)
		holds(t, "none", m, cells{})
		if len(c) != 0 {
			t.Errorf("conflicts %+v", c)
		}
		m, c = merge.Merge(p, none, mapOf(cells{0: cent(1)}), mapOf(cells{0: cent(2), 99: yes}))
		holds(t, "no base", m, cells{0: cent(1), 99: yes})
		if len(c) != 1 || c[0] != dispute(0, nil, cells{0: cent(1)}, cells{0: cent(2)}) {
			t.Errorf("no base: conflicts %+v", c)
		}
		m, c = merge.Merge(p, mapOf(cells{0: cent(1), 6: yes}), none, mapOf(cells{0: cent(2), 6: yes}))
		holds(t, "no ours", m, cells{})
		if len(c) != 1 || c[0] != dispute(0, cells{0: cent(1)}, nil, cells{0: cent(2)}) {
			t.Errorf("no ours: conflicts %+v", c)
		}
		m, c = merge.Merge(p, mapOf(cells{0: cent(1), 6: yes}), mapOf(cells{0: cent(2), 6: yes}), none)
		holds(t, "no theirs", m, cells{0: cent(2)})
		if len(c) != 1 || c[0] != dispute(0, cells{0: cent(1)}, cells{0: cent(2)}, nil) {
			t.Errorf("no theirs: conflicts %+v", c)
		}
	}
}

// What is handed in stays as it is, spare room too, and so do the maps.
func TestP15_2ArgumentsStayAsTheyAre(t *testing.T) {
	eachMade(t, 1502, 60, 24, func(r *rand.Rand, p api.Pack, m *model) {
		roomy(&p)
		was := laidOpen(&p)
		base, ours, theirs := m.oddMaps(r)
		a, b, c := mapOf(base), mapOf(ours), mapOf(theirs)
		merged, l := merge.Merge(p, a, b, c)
		changes(p, b, c)
		if laidOpen(&p) != was {
			t.Error("the pack is another one")
		}
		roomy(&l)
		decided := make([]bool, len(l), len(l)+3)
		laid, room := laidOpen(&l), laidOpen(&decided)
		held := cellsOf(merged)
		merge.Resolve(merged, l, decided)
		if laidOpen(&l) != laid || laidOpen(&decided) != room {
			t.Error("the conflicts or decisions are others")
		}
		holds(t, "base", a, base)
		holds(t, "ours", b, ours)
		holds(t, "theirs", c, theirs)
		holds(t, "merged", merged, held)
	})
}

// Conflicts that were told are the caller's: what is written into them, or behind them, no other answer shows.
func TestP15_5AnswersAreApart(t *testing.T) {
	p := mixed()
	base, ours, theirs := cells{}, cells{4: cent(1), 13: cent(1), 14: yes, 300: yes}, cells{4: cent(2), 14: yes, 1: cent(1), 300: no}
	call := func() (*trie.Map, []api.Conflict) {
		return merge.Merge(p, mapOf(base), mapOf(ours), mapOf(theirs))
	}
	m, first := call()
	kept := slices.Clone(first)
	_, other := call()
	scribble(&other)
	_ = append(other, api.Conflict{}, api.Conflict{})
	_, third := call()
	if !slices.Equal(first, kept) || !slices.Equal(third, kept) || len(kept) != 3 {
		t.Errorf("%+v, %+v, want %+v", first, third, kept)
	}
	r, _ := merge.Resolve(m, first, []bool{true, true, true})
	scribble(&first)
	holds(t, "resolved", r, cells{4: cent(2), 13: cent(1), 14: yes, 1: cent(1), 300: no})
}

// Packs that differ only in nil and empty lists.
func TestP15_1NilAndEmptyAreTheSame(t *testing.T) {
	p, q := example(), example()
	p.Options, p.Tables, p.Checks, p.Lines[0].Clauses = []api.Options{}, []api.Table{}, []api.Check{}, []api.Clause{}
	a, b := mapOf(cells{}), mapOf(cells{0: cent(1), 1: num(1), 6: yes, 3: cent(1)})
	if l, k := changes(p, a, b), changes(q, a, b); !slices.Equal(l, k) || !slices.Equal(keysOf(l), []uint32{0, 6, 1, 3}) {
		t.Errorf("%+v, %+v", l, k)
	}
}

// A pack's order may be asked for from several sides at once.
func TestP15_2AtTheSameTime(t *testing.T) {
	a, b := cells{0: cent(1), 300: yes}, cells{4: cent(2), 14: yes, 1: cent(1), 300: no}
	seq := merge.Changes(mixed(), mapOf(a), mapOf(b))
	want := modelOf(t, mixed()).changes(a, b)
	var all sync.WaitGroup
	for range 8 {
		all.Go(func() {
			for range 50 {
				if l := slices.Collect(seq); !slices.Equal(l, want) {
					t.Errorf("%+v, want %+v", l, want)
				}
			}
		})
	}
	all.Wait()
}

// many: a map of many keys, most of them no cells.
func many(n int, v api.Value) *trie.Map {
	m := trie.Empty()
	for i := range n {
		m = m.Put(uint32(i)*2654435761, v)
	}
	return m
}

func TestP15_3ManyKeys(t *testing.T) {
	const n = 20000
	base, ours, theirs := many(n, cent(1)), many(n, cent(2)), many(n, cent(3))
	m, c := merge.Merge(mixed(), base, ours, theirs)
	if m.Len() != n || len(c) != n {
		t.Fatalf("%d keys, %d conflicts", m.Len(), len(c))
	}
	for i, key := range modelOf(t, mixed()).inOrder(cellsOf(ours)) {
		if want := (api.Conflict{Base: api.Change{Id: key, Has: true, Now: cent(1)}, Ours: api.Change{Id: key, Has: true, Now: cent(2)}, Theirs: api.Change{Id: key, Has: true, Now: cent(3)}}); c[i] != want {
			t.Fatalf("conflict %d: %+v, want %+v", i, c[i], want)
		}
	}
	x, e := merge.Resolve(m, c, slices.Repeat([]bool{true}, n))
	if e != api.OK || len(changes(mixed(), x, theirs)) != 0 {
		t.Errorf("resolved: error %d", e)
	}
}

// strange: numbers that may stand anywhere.
func strange(r *rand.Rand) int {
	return pick(r, math.MinInt, math.MinInt32, -2, -1, 0, 1, 2, 3, 8, 9, 255, 256, math.MaxInt32, math.MaxInt)
}

// Of packs that aren't well formed: all calls end, and none panics.
func TestP15_1AnyPack(t *testing.T) {
	r := rand.New(rand.NewSource(1501))
	a, b, c := mapOf(cells{0: cent(1), 14: yes, 300: yes}), mapOf(cells{0: cent(2), 14: yes, 1: cent(1)}), mapOf(cells{})
	ask := func(p api.Pack) {
		for range merge.Changes(p, a, b) {
		}
		m, l := merge.Merge(p, a, b, c)
		if m == nil {
			t.Errorf("%+v: no map", p)
		}
		merge.Resolve(m, l, make([]bool, len(l)))
	}
	for range 1000 {
		p := mixed()
		for range 1 + r.Intn(3) {
			l, k, g := &p.Lines[r.Intn(len(p.Lines))], &p.Checks[r.Intn(2)], &p.Groups[r.Intn(3)]
			*pick(r, &l.Type, &l.Options, &l.Group, &k.Group, &g.Rows, &p.Year) = strange(r)
			l.Input = r.Intn(2) == 0
		}
		ask(p)
	}
	p := mixed()
	scribble(&p)
	ask(p)
	ask(api.Pack{})
	ask(api.Pack{Name: "wide", Year: 2024, Groups: slices.Repeat([]api.Group{{Name: "g", Rows: math.MaxInt}}, 1000), Lines: slices.Repeat([]api.Line{input("a", api.Cents, 0)}, 1000)})
	cycle := example()
	cycle.Lines[3].Clauses[0].Body = of(api.OpLine, 3)
	ask(cycle)
}
