package graph_test

import (
	"fmt"
	"math/rand"
	"slices"
	"testing"

	"levy/api"
)

func TestExample1(t *testing.T) {
	g := made(t, example())
	if g.Cells() != 8 {
		t.Errorf("%d cells", g.Cells())
	}
	gives(t, "Reads(3)", g.Reads(3), 1, 6)
	gives(t, "Reads(5)", g.Reads(5), 3, 4, 6, 7)
	gives(t, "Users(6)", g.Users(6), 3, 5)
	for cell, want := range []int{0, 0, 0, 1, 1, 2, 0, 0} {
		if g.Rank(cell) != want {
			t.Errorf("Rank(%d): %d, want %d", cell, g.Rank(cell), want)
		}
	}
	if !slices.Equal(g.Order(), []int{0, 1, 2, 6, 7, 3, 4, 5}) {
		t.Errorf("Order: %v", g.Order())
	}
	gives(t, "Hit(1)", g.Hit(1), 1, 3, 5)
	gives(t, "Need(4)", g.Need(4), 2, 7, 4)
	gives(t, "Hit(1, 99, 7)", g.Hit(1, 99, 7), 1, 7, 3, 4, 5)
}

func TestP8_6Ranks(t *testing.T) {
	for _, c := range []struct {
		what         string
		p            api.Pack
		ranks, order []int
	}{
		{"nothing hangs on anything", plain(nil, nil, nil), []int{0, 0, 0}, []int{0, 1, 2}},
		{"a chain", plain(nil, []int{0}, []int{1}), []int{0, 1, 2}, []int{0, 1, 2}},
		{"a chain from the back", plain([]int{1}, []int{2}, nil), []int{2, 1, 0}, []int{2, 1, 0}},
		{"the longest way counts", plain([]int{3, 1}, []int{2}, []int{3}, nil), []int{3, 2, 1, 0}, []int{3, 2, 1, 0}},
		{"a short way and a long one", plain([]int{4}, []int{0, 4}, []int{4, 1}, []int{4}, nil), []int{1, 2, 3, 1, 0}, []int{4, 0, 3, 1, 2}},
		{"a constant is of rank 0", plain([]int{2}, nil, nil, []int{1}), []int{1, 0, 0, 1}, []int{1, 2, 0, 3}},
	} {
		g := made(t, c.p)
		for cell, want := range c.ranks {
			if g.Rank(cell) != want {
				t.Errorf("%s: Rank(%d): %d, want %d", c.what, cell, g.Rank(cell), want)
			}
		}
		if !slices.Equal(g.Order(), c.order) {
			t.Errorf("%s: Order: %v, want %v", c.what, g.Order(), c.order)
		}
	}
}

func TestP8_6NoRank(t *testing.T) {
	for _, p := range []api.Pack{example(), placed(), full()} {
		g := made(t, p)
		for _, cell := range noCells(g.Cells()) {
			if g.Rank(cell) != -1 {
				t.Errorf("Rank(%d): %d", cell, g.Rank(cell))
			}
		}
	}
}

// chain: lines each of which reads the one behind it; the last one reads those that are told.
func chain(n int, last ...int) api.Pack {
	var reads [][]int
	for i := range n - 1 {
		reads = append(reads, []int{i + 1})
	}
	return plain(append(reads, last)...)
}

func TestP8_6TheHighestRank(t *testing.T) {
	p := chain(api.MaxLines)
	p.Checks = []api.Check{{Name: "check", Group: -1, When: op(api.OpGt, line(0), cents(0)), Text: "so"}}
	g := made(t, p)
	var want []int
	for cell := range api.MaxLines {
		if g.Rank(cell) != 47-cell {
			t.Errorf("Rank(%d): %d", cell, g.Rank(cell))
		}
		want = append(want, 47-cell)
	}
	if g.Rank(48) != 48 || !slices.Equal(g.Order(), append(want, 48)) {
		t.Errorf("Rank(48): %d, Order: %v", g.Rank(48), g.Order())
	}
}

// Lines each of which reads all behind it.
func TestP8_6Dense(t *testing.T) {
	var reads [][]int
	for i := range api.MaxLines {
		var l []int
		for j := i + 1; j < api.MaxLines; j++ {
			l = append(l, j)
		}
		reads = append(reads, l)
	}
	if asModel(t, plain(reads...)) != 0 {
		t.Error("no graph")
	}
	cycles(t, "the last one reads the first", plain(append(reads[:47:47], []int{0})...), 0, 47)
}

func TestP8_10OrderHasReadsAhead(t *testing.T) {
	r := rand.New(rand.NewSource(810))
	for range 200 {
		g := made(t, madePack(r, 48, shape{3, 0, 30}))
		seen := map[int]bool{}
		for _, cell := range g.Order() {
			for read := range g.Reads(cell) {
				if !seen[read] {
					t.Fatalf("%d stands ahead of %d, which it may read", cell, read)
				}
			}
			seen[cell] = true
		}
		if len(seen) != g.Cells() || len(g.Order()) != g.Cells() {
			t.Fatalf("Order has %d cells of %d", len(seen), g.Cells())
		}
		byRank := func(a, b int) int { return (g.Rank(a)-g.Rank(b))*1000 + a - b }
		if !slices.IsSortedFunc(g.Order(), byRank) {
			t.Fatalf("Order isn't by rank and number: %s", fmt.Sprint(g.Order()))
		}
	}
}
