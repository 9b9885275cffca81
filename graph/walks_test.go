package graph_test

import (
	"fmt"
	"iter"
	"math/rand"
	"slices"
	"testing"

	"levy/api"
	"levy/graph"
)

func TestP8_7HitAndNeed(t *testing.T) {
	g := made(t, plain([]int{4}, []int{0, 4}, []int{4, 1}, []int{4}, nil, nil)) // the order: 4, 5, 0, 3, 1, 2
	for _, c := range []struct{ cells, hit, need []int }{
		{nil, nil, nil},
		{[]int{4}, []int{4, 0, 3, 1, 2}, []int{4}},
		{[]int{5}, []int{5}, []int{5}},
		{[]int{0}, []int{0, 1, 2}, []int{4, 0}},
		{[]int{1}, []int{1, 2}, []int{4, 0, 1}},
		{[]int{2}, []int{2}, []int{4, 0, 1, 2}},
		{[]int{3, 5}, []int{5, 3}, []int{4, 5, 3}},
		{[]int{2, 1, 2, 2}, []int{1, 2}, []int{4, 0, 1, 2}},
		{[]int{-1, 6, 3, 255, 256}, []int{3}, []int{4, 3}},
		{[]int{5, 4, 3, 2, 1, 0}, []int{4, 5, 0, 3, 1, 2}, []int{4, 5, 0, 3, 1, 2}},
	} {
		gives(t, fmt.Sprintf("Hit(%v)", c.cells), g.Hit(c.cells...), c.hit...)
		gives(t, fmt.Sprintf("Need(%v)", c.cells), g.Need(c.cells...), c.need...)
	}
}

func TestP8_7NoCells(t *testing.T) {
	for _, p := range []api.Pack{example(), placed(), full()} {
		g := made(t, p)
		none := noCells(g.Cells())
		for _, l := range [][]int{nil, {}, none, none[:1], none[11:]} {
			if g.Hit(l...) == nil || g.Need(l...) == nil {
				t.Fatalf("a nil iterator of %v", l)
			}
			gives(t, "Hit of no cells", g.Hit(l...))
			gives(t, "Need of no cells", g.Need(l...))
		}
		gives(t, "among numbers that are none", g.Hit(append(none, 0)...), list(g.Hit(0))...)
		gives(t, "among numbers that are none", g.Need(append([]int{2}, none...)...), list(g.Need(2))...)
	}
}

func TestP8_7ManyCells(t *testing.T) {
	g := made(t, full())
	many := slices.Repeat([]int{3, -7, 250, 3, 999}, 1<<16)
	gives(t, "the same again and again", g.Hit(many...), list(g.Hit(3, 250))...)
	gives(t, "the same again and again", g.Need(many...), list(g.Need(3, 250))...)
	all := g.Order()
	slices.Reverse(all)
	gives(t, "all", g.Hit(all...), g.Order()...)
	gives(t, "all", g.Need(all...), g.Order()...)
}

func TestP8_7AsTheModelTells(t *testing.T) {
	r := rand.New(rand.NewSource(87))
	for range 150 {
		p := madePack(r, 48, shape{2, 0, 40})
		g, m := made(t, p), modelOf(p)
		ranks := m.ranks()
		for range 20 {
			var cells []int
			for range r.Intn(5) {
				cells = append(cells, r.Intn(g.Cells()+4)-2)
			}
			gives(t, fmt.Sprintf("Hit(%v)", cells), g.Hit(cells...), m.hit(ranks, cells...)...)
			gives(t, fmt.Sprintf("Need(%v)", cells), g.Need(cells...), m.need(ranks, cells...)...)
		}
	}
}

func TestP8_11HitAndNeedAreOne(t *testing.T) {
	r := rand.New(rand.NewSource(811))
	for range 60 {
		g := made(t, madePack(r, 30, shape{3, 0, 40}))
		hits, needs := map[[2]int]bool{}, map[[2]int]bool{}
		for cell := range g.Cells() {
			for other := range g.Hit(cell) {
				hits[[2]int{cell, other}] = true
			}
			for other := range g.Need(cell) {
				needs[[2]int{other, cell}] = true
			}
		}
		if fmt.Sprint(hits) != fmt.Sprint(needs) {
			t.Fatalf("Hit: %v, Need: %v", hits, needs)
		}
		a, b, c := r.Intn(g.Cells()), r.Intn(g.Cells()), r.Intn(g.Cells())
		for _, call := range []func(...int) iter.Seq[int]{g.Hit, g.Need} {
			apart := slices.Concat(list(call(a)), list(call(b)), list(call(c)))
			together := list(call(a, b, c))
			slices.Sort(apart)
			slices.Sort(together)
			if !slices.Equal(together, slices.Compact(apart)) {
				t.Fatalf("of %d, %d, %d together: %v, apart: %v", a, b, c, together, apart)
			}
		}
	}
}

// leave goes through an iterator by hand up to its n-th item, and tells how many it was given.
func leave(seq iter.Seq[int], n int) int {
	calls := 0
	seq(func(int) bool {
		calls++
		return calls < n
	})
	return calls
}

func checkLeaving(t *testing.T, what string, seq iter.Seq[int]) {
	t.Helper()
	all := list(seq)
	for n := 1; n <= len(all)+1; n++ {
		if got := leave(seq, n); got != min(n, len(all)) {
			t.Errorf("%s: told to end at item %d of %d, it gave %d", what, n, len(all), got)
		}
		if again := list(seq); !slices.Equal(again, all) {
			t.Errorf("%s: left at %d, gone through again it gives %v, want %v", what, n, again, all)
		}
	}
}

func checkNested(t *testing.T, what string, seq iter.Seq[int]) {
	t.Helper()
	all := list(seq)
	var outer, inner []int
	for x := range seq {
		outer = append(outer, x)
		inner = append(inner, list(seq)...)
	}
	if !slices.Equal(outer, all) || !slices.Equal(inner, slices.Repeat(all, len(all))) {
		t.Errorf("%s: gone through within itself it gives something else", what)
	}
	next, stop := iter.Pull(seq)
	defer stop()
	for i, x := range all {
		if got, ok := next(); !ok || got != x || leave(seq, i+1) != i+1 {
			t.Errorf("%s: beside itself it gives %d at %d, want %d", what, got, i, x)
		}
	}
}

// walks: iterators of a graph, some long, some short.
func walks(g *graph.Graph) map[string]iter.Seq[int] {
	n := g.Cells()
	l := map[string]iter.Seq[int]{"Hit of some": g.Hit(0, n-1, 0), "Need of some": g.Need(n-1, 0, n/2, n-1), "Hit of none": g.Hit(), "Need of none": g.Need(-1), "Reads of none": g.Reads(n), "Users of none": g.Users(-1)}
	for _, cell := range []int{0, n / 3, n / 2, n - 1} {
		l[fmt.Sprintf("Reads(%d)", cell)], l[fmt.Sprintf("Users(%d)", cell)] = g.Reads(cell), g.Users(cell)
		l[fmt.Sprintf("Hit(%d)", cell)], l[fmt.Sprintf("Need(%d)", cell)] = g.Hit(cell), g.Need(cell)
	}
	return l
}

func TestP8_5P8_7LeavingAndNesting(t *testing.T) {
	r := rand.New(rand.NewSource(857))
	for i := range 40 {
		p := madePack(r, 20, shape{2, 0, 30})
		if i == 0 {
			p = example()
		}
		for what, seq := range walks(made(t, p)) {
			checkLeaving(t, what, seq)
			checkNested(t, what, seq)
		}
	}
}

// Walks of one graph don't touch one another.
func TestP8_5P8_7WalksBesideWalks(t *testing.T) {
	g := made(t, full())
	was := text(g)
	a, b := list(g.Hit(0)), list(g.Need(255))
	var gotA, gotB []int
	nextB, stop := iter.Pull(g.Need(255))
	defer stop()
	for x := range g.Hit(0) {
		gotA = append(gotA, x)
		if y, ok := nextB(); ok {
			gotB = append(gotB, y)
		}
		for range g.Reads(x) {
			break
		}
		leave(g.Hit(x, 1), 2)
		leave(g.Need(x, 2), 2)
	}
	for y, ok := nextB(); ok; y, ok = nextB() {
		gotB = append(gotB, y)
	}
	if !slices.Equal(gotA, a) || !slices.Equal(gotB, b) {
		t.Errorf("Hit(0): %v, want %v; Need(255): %v, want %v", gotA, a, gotB, b)
	}
	if text(g) != was {
		t.Error("a walk changed the graph")
	}
}

// A walk that a panic ends leaves nothing behind.
func TestP8_7PanicWithin(t *testing.T) {
	g := made(t, example())
	seq := g.Hit(1, 7)
	for at := 1; at <= 5; at++ {
		func() {
			defer func() { recover() }()
			n := 0
			for range seq {
				if n++; n == at {
					panic("left")
				}
			}
		}()
		gives(t, "Hit(1, 7) again", seq, 1, 7, 3, 4, 5)
	}
}
