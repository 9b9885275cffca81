package incr_test

import (
	"fmt"
	"math/rand"
	"slices"
	"testing"

	"levy/api"
	"levy/incr"
	"levy/trie"
)

// All promises by packs and scripts that chance makes, held against the model and against each other.

// tally counts what came about, so that chance leaves nothing out.
type tally map[string]int

func (c tally) atLeast(t *testing.T, n int, what ...string) {
	t.Helper()
	for _, x := range what {
		if c[x] < n {
			t.Errorf("%s: %d times", x, c[x])
		}
	}
}

// pair: a memo, and what the chapter says of it.
type pair struct {
	memo  *incr.Memo
	model *model
}

func newPair(t *testing.T, p api.Pack, m *model) pair { return pair{made(t, p), m} }

func (p pair) clone() pair { return pair{p.memo.Clone(), p.model.clone()} }

// set sets one cell of both.
func (p pair) set(t *testing.T, cell uint32, v api.Value) (bool, api.Errno) {
	t.Helper()
	want, errno := p.model.set(cell, v)
	if changed, e := p.memo.Set(cell, v); changed != want || e != errno {
		t.Errorf("Set(%d, %v): %t, error %d, want %t, error %d", cell, v, changed, e, want, errno)
	}
	return want, errno
}

// load loads a list into both.
func (p pair) load(t *testing.T, l []api.Read) (int, api.Errno) {
	t.Helper()
	want, taken, errno := p.model.load(l)
	asked, times := 0, 0
	if n, e := p.memo.Load(giving(l, &asked, &times)); n != want || e != errno || asked != taken || times != 1 {
		t.Errorf("Load(%v): %d, error %d, %d taken, want %d, error %d, %d taken; gone through %d times", l, n, e, asked, want, errno, taken, times)
	}
	return want, errno
}

// spoilt: a list with something in it that is mostly refused.
func spoilt(r *rand.Rand, m *model, l []api.Read) []api.Read {
	l = slices.Clone(l)
	if len(l) == 0 || r.Intn(3) == 0 {
		return slices.Insert(l, r.Intn(len(l)+1), at(uint32(r.Intn(m.graph.Cells()+2)), odd(r)))
	}
	switch i, j := r.Intn(len(l)), r.Intn(len(l)); r.Intn(3) {
	case 0:
		l[i], l[j] = l[j], l[i]
	case 1:
		l[i].Seen = odd(r)
	default:
		l = slices.Insert(l, i, l[j])
	}
	return l
}

// step does one thing to a pair, by chance.
func step(t *testing.T, r *rand.Rand, p pair, counts tally) string {
	t.Helper()
	cell, v, ok := anInput(r, p.model)
	switch n := r.Intn(20); {
	case n < 7 && ok:
		changed, _ := p.set(t, cell, v)
		counts[fmt.Sprint("set ", changed)]++
		return fmt.Sprint("Set ", cell, v)
	case n < 9:
		cell, v := uint32(r.Intn(p.model.graph.Cells()+2)), odd(r)
		_, e := p.set(t, cell, v)
		counts[fmt.Sprint("set error ", int(e))]++
		return fmt.Sprint("Set ", cell, v)
	case n < 11:
		l := someInputs(r, p.model)
		p.load(t, l)
		return fmt.Sprint("Load ", l)
	case n < 12:
		l := spoilt(r, p.model, someInputs(r, p.model))
		_, e := p.load(t, l)
		counts[fmt.Sprint("load error ", int(e))]++
		return fmt.Sprint("Load ", l)
	}
	at := r.Intn(p.model.graph.Cells())
	asked(t, "a step", p.memo, p.model, at)
	return fmt.Sprint("Get ", at)
}

func TestP10_5AsTheModel(t *testing.T) {
	counts := tally{}
	eachMade(t, 105, 250, 20, func(r *rand.Rand, p api.Pack, m *model) {
		pairs := []pair{newPair(t, p, m)}
		for range 60 {
			i := r.Intn(len(pairs))
			if len(pairs) < 3 && r.Intn(20) == 0 {
				pairs = append(pairs, pairs[i].clone())
			}
			what := step(t, r, pairs[i], counts)
			for _, x := range pairs {
				if r.Intn(8) == 0 {
					asModel(t, what, x.memo, x.model)
				}
			}
			if t.Failed() {
				t.Fatal(what)
			}
		}
		for _, x := range pairs {
			asModel(t, "at the end", x.memo, x.model)
			counts["cut"] += x.model.cut
			for _, n := range x.model.evals {
				counts["evaluations"] += n
			}
		}
	})
	counts.atLeast(t, 100, "set true", "set false", "set error 0", "set error 100", "set error 101", "load error 101", "cut", "evaluations")
	counts.atLeast(t, 20, "load error 0", "load error 100")
}

// inMap: a model's inputs as a map of layer 3.
func inMap(m *model) *trie.Map {
	in := trie.Empty()
	for _, x := range m.told() {
		in = in.Put(x.Cell, x.Seen)
	}
	return in
}

// What Get answers is what the cell holds from scratch, whatever was asked before.
func TestP10_9FromScratch(t *testing.T) {
	counts := tally{}
	eachMade(t, 109, 150, 24, func(r *rand.Rand, p api.Pack, m *model) {
		x := newPair(t, p, m)
		for range 12 {
			for range 1 + r.Intn(6) {
				step(t, r, x, tally{})
			}
			fresh := made(t, p)
			fresh.Load(inMap(m).All())
			held := m.holds()
			for _, cell := range r.Perm(len(held))[:min(len(held), 12)] {
				v, _, e := x.memo.Get(uint32(cell))
				m.get(cell)
				if first, _, _ := fresh.Get(uint32(cell)); v != held[cell] || v != first || e != api.OK {
					t.Errorf("Get(%d): %v, error %d, of a fresh memo %v, from scratch %v", cell, v, e, first, held[cell])
				}
				one, errno := m.eval.One(inMap(m), uint32(cell))
				counts[fmt.Sprint("error ", int(errno))]++
				if errno == api.OK && one != v {
					t.Errorf("Get(%d): %v, One: %v", cell, v, one)
				}
				counts[fmt.Sprint("kind ", v.Kind)]++
			}
		}
	})
	counts.atLeast(t, 100, "error 0", "error 91", "kind 0", "kind 1", "kind 2", "kind 3", "kind 4", "kind 5", "kind 6")
}

// Over inputs that fit, all that is asked is eval.All.
func TestP10_9InputsThatFit(t *testing.T) {
	eachMade(t, 1090, 150, 24, func(r *rand.Rand, p api.Pack, m *model) {
		x := newPair(t, p, m)
		for range 5 {
			l := fitting(m, someInputs(r, m))
			x.load(t, l)
			all := m.eval.All(inMap(m))
			if len(all) == 0 {
				t.Errorf("inputs that don't fit: %v", l)
			}
			for _, cell := range r.Perm(len(all)) {
				if v, _, _ := x.memo.Get(uint32(cell)); v != all[cell] {
					t.Errorf("Get(%d): %v, All: %v", cell, v, all[cell])
				}
			}
		}
	})
}

// fitting: a list of inputs without those of rows that aren't used.
func fitting(m *model, l []api.Read) []api.Read {
	return slices.DeleteFunc(slices.Clone(l), func(x api.Read) bool {
		place, _ := m.graph.Place(int(x.Cell))
		if place.Kind != api.PlaceLine {
			return false
		}
		row, ok := m.graph.Flag(m.pack.Lines[place.Index].Group, place.Row)
		return ok && !slices.Contains(l, at(uint32(row), yes))
	})
}

// before: what a memo tells of all cells' evaluations.
func before(m *incr.Memo, cells int) (evals []int, dirty []uint32) {
	for cell := range cells {
		evals = append(evals, m.Evals(uint32(cell)))
	}
	return evals, slices.Collect(m.Dirty())
}

func TestP10_10NoCellTwice(t *testing.T) {
	counts := tally{}
	eachMade(t, 110, 150, 24, func(r *rand.Rand, p api.Pack, m *model) {
		x := newPair(t, p, m)
		for range 25 {
			for range r.Intn(3) {
				step(t, r, x, tally{})
			}
			cell := r.Intn(m.graph.Cells())
			was, dirty := before(x.memo, m.graph.Cells())
			_, n, _ := x.memo.Get(uint32(cell))
			m.get(cell)
			now, _ := before(x.memo, m.graph.Cells())
			need := slices.Collect(m.graph.Need(cell))
			made := 0
			for c := range now {
				switch more := now[c] - was[c]; {
				case more == 0:
				case more != 1 || !slices.Contains(dirty, uint32(c)) || !slices.Contains(need, c):
					t.Errorf("Get(%d): %d evaluations of %d; it needs %v, dirty were %v", cell, more, c, need, dirty)
				default:
					made++
				}
			}
			if made != n {
				t.Errorf("Get(%d): %d, and %d were made", cell, n, made)
			}
			state := text(x.memo)
			if _, again, _ := x.memo.Get(uint32(cell)); again != 0 || text(x.memo) != state {
				t.Errorf("Get(%d) again: %d evaluations", cell, again)
			}
			counts[fmt.Sprint("made ", min(made, 3))]++
		}
	})
	counts.atLeast(t, 100, "made 0", "made 1", "made 2", "made 3")
}

// What is set and taken back, with nothing asked between, costs nothing.
func TestP10_11TakenBack(t *testing.T) {
	back := 0
	eachMade(t, 111, 200, 24, func(r *rand.Rand, p api.Pack, m *model) {
		x := newPair(t, p, m)
		x.load(t, someInputs(r, m))
		for range 20 {
			for range r.Intn(4) {
				step(t, r, x, tally{})
			}
			was, dirty := before(x.memo, m.graph.Cells())
			cell, v, ok := anInput(r, m)
			if !ok {
				return
			}
			if old := m.inputs[int(cell)]; r.Intn(2) == 0 {
				x.set(t, cell, v)
				x.set(t, cell, old)
			} else {
				l := m.told()
				x.load(t, someInputs(r, m))
				x.load(t, l)
			}
			for range 3 {
				asked(t, "taken back", x.memo, m, r.Intn(m.graph.Cells()))
			}
			now, _ := before(x.memo, m.graph.Cells())
			for c := range now {
				if now[c] != was[c] && !slices.Contains(dirty, uint32(c)) {
					t.Errorf("%d was clean, and is evaluated", c)
				}
			}
			back++
		}
	})
	if back < 1000 {
		t.Errorf("%d times", back)
	}
}

// A cell that is evaluated never was, or has a cell among its last reads that holds another value.
func TestP10_11WhatIsEvaluated(t *testing.T) {
	counts := tally{}
	eachMade(t, 1110, 150, 24, func(r *rand.Rand, p api.Pack, m *model) {
		x := newPair(t, p, m)
		for range 25 {
			for range 1 + r.Intn(3) {
				step(t, r, x, tally{})
			}
			old := x.memo.Clone()
			cell := r.Intn(m.graph.Cells())
			asked(t, "evaluated", x.memo, m, cell)
			held := m.holds()
			for c := range held {
				node, had := old.Last(uint32(c))
				moved := slices.ContainsFunc(node.Reads, func(a api.Read) bool { return held[a.Cell] != a.Seen })
				anew := x.memo.Evals(uint32(c)) > old.Evals(uint32(c))
				if anew && had && !moved {
					t.Errorf("Get(%d) evaluates %d, whose reads %v hold what they did", cell, c, node.Reads)
				}
				counts[fmt.Sprint(anew, had, moved)]++
			}
		}
	})
	counts.atLeast(t, 100, fmt.Sprint(true, false, false), fmt.Sprint(true, true, true), fmt.Sprint(false, true, false), fmt.Sprint(false, true, true))
}

func TestP10_12CleanBelow(t *testing.T) {
	below := 0
	eachMade(t, 112, 150, 24, func(r *rand.Rand, p api.Pack, m *model) {
		x := newPair(t, p, m)
		for range 25 {
			for range r.Intn(3) {
				step(t, r, x, tally{})
			}
			cell := r.Intn(m.graph.Cells())
			asked(t, "clean", x.memo, m, cell)
			dirty := slices.Collect(x.memo.Dirty())
			todo, seen := []uint32{uint32(cell)}, map[uint32]bool{}
			for len(todo) > 0 {
				c := todo[0]
				if todo = todo[1:]; seen[c] {
					continue
				}
				seen[c] = true
				if slices.Contains(dirty, c) {
					t.Errorf("behind Get(%d) the cell %d is dirty", cell, c)
				}
				node, _ := x.memo.Last(c)
				for _, a := range node.Reads {
					if v, n, _ := x.memo.Clone().Get(a.Cell); v != a.Seen || n != 0 {
						t.Errorf("behind Get(%d) the cell %d has seen %v at %d, which holds %v", cell, c, a.Seen, a.Cell, v)
					}
					todo = append(todo, a.Cell)
				}
			}
			below += len(seen)
		}
	})
	if below < 5000 {
		t.Errorf("%d cells", below)
	}
}
