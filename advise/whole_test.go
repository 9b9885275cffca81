package advise_test

import (
	"math/rand"
	"slices"
	"testing"

	"levy/advise"
	"levy/api"
	"levy/trie"
)

// All promises by packs, inputs and cells that chance makes, held against the model and against each other.

// asked: a question that Best answers without an error.
type asked struct {
	in     *trie.Map
	cells  []uint32
	target uint32
}

// eachAsked calls do with questions over packs: of targets that hang on something, now and then any.
func eachAsked(t *testing.T, seed int64, bound int, do func(r *rand.Rand, m *model, q asked)) {
	t.Helper()
	eachMade(t, seed, 120, 20, func(r *rand.Rand, p api.Pack, m *model) {
		for range 3 {
			l := m.fitting(r)
			targets := m.computedTargets(4)
			if all := m.targets(); len(all) > 0 {
				targets = append(targets, pick(r, all...))
			}
			for _, target := range targets {
				cells := m.chosen(r, l, pick(r, m.anyCells(r), m.under(r, target), m.under(r, target)), bound)
				if do(r, m, asked{inputs(l...), cells, target}); t.Failed() {
					t.Fatalf("inputs %v, cells %v, target %d", l, cells, target)
				}
			}
		}
	})
}

func TestP16_2AsTheModel(t *testing.T) {
	counts := tally{}
	eachAsked(t, 1602, 200, func(r *rand.Rand, m *model, q asked) {
		want := m.ways(q.in, q.cells, q.target)
		seq := advise.All(m.pack, q.in, q.cells, q.target)
		gives(t, "All", seq, want...)
		many := 1 + r.Intn(len(want))
		var l []way
		for picks, worth := range seq {
			if l = append(l, way{picks, worth}); len(l) == many {
				break
			}
		}
		if !slices.EqualFunc(l, want[:many], sameWay) {
			t.Errorf("left behind %d: %v, want %v", many, l, want[:many])
		}
		for _, w := range want {
			if w.worth != want[0].worth {
				counts["worths unlike"]++
				break
			}
		}
		for _, w := range want {
			counts["kind"+string(rune('0'+w.worth.Kind))]++
		}
	})
	counts.atLeast(t, 100, "worths unlike", "kind0", "kind1", "kind6")
}

func TestP16_3AsTheModel(t *testing.T) {
	counts := tally{}
	eachAsked(t, 1603, 300, func(r *rand.Rand, m *model, q asked) {
		l := m.ways(q.in, q.cells, q.target)
		least, most := best(l, false), best(l, true)
		advises(t, "Best", m.pack, q.in, q.cells, q.target, least, most)
		switch {
		case !least.Ok:
			counts["none"]++
		case least.Val != most.Val:
			counts["unlike"]++
		}
		if least.Ok && !slices.Equal(least.Picks, l[0].picks) {
			counts["not the first way"]++
		}
		if least.Ok && slices.ContainsFunc(l, func(w way) bool { return w.worth.Kind != api.Cents }) {
			counts["some never win"]++
		}
		if n := len(slices.DeleteFunc(l, func(w way) bool { return w.worth != most.Val })); most.Ok && n > 1 {
			counts["equals"]++
		}
	})
	counts.atLeast(t, 20, "none", "unlike", "not the first way", "some never win", "equals")
}

// No way is better than what Best tells, none ahead of it as good; by All alone.
func TestP16_5NoneIsBetter(t *testing.T) {
	eachAsked(t, 1605, 100, func(r *rand.Rand, m *model, q asked) {
		l := waysOf(advise.All(m.pack, q.in, q.cells, q.target))
		for _, most := range []bool{false, true} {
			a, e := advise.Best(m.pack, q.in, q.cells, q.target, most)
			if e != api.OK || a.Tried != len(l) {
				t.Errorf("%+v, error %d, of %d ways", a, e, len(l))
			}
			told := slices.IndexFunc(l, func(w way) bool { return slices.Equal(w.picks, a.Picks) })
			for i, w := range l {
				switch {
				case w.worth.Kind != api.Cents:
				case !a.Ok, most && w.worth.Num > a.Val.Num, !most && w.worth.Num < a.Val.Num, i < told && w.worth == a.Val:
					t.Errorf("most: %t: %+v, but there is %v", most, a, w)
				}
			}
			if a.Ok && l[told].worth != a.Val {
				t.Errorf("%+v, but there it is %v", a, l[told])
			}
		}
	})
}

// The order of cells never changes what is told as the best worth, nor how many ways there are.
func TestP16_5AnyOrderOfCells(t *testing.T) {
	others := 0
	eachAsked(t, 1655, 100, func(r *rand.Rand, m *model, q asked) {
		for _, most := range []bool{false, true} {
			a, _ := advise.Best(m.pack, q.in, q.cells, q.target, most)
			var cells []uint32
			turn := r.Perm(len(q.cells))
			for _, i := range turn {
				cells = append(cells, q.cells[i])
			}
			b, e := advise.Best(m.pack, q.in, cells, q.target, most)
			if e != api.OK || a.Val != b.Val || a.Tried != b.Tried || a.Ok != b.Ok || len(a.Picks) != len(b.Picks) {
				t.Errorf("%+v, turned %+v, error %d", a, b, e)
				return
			}
			for i, v := range b.Picks {
				if a.Picks[turn[i]] != v {
					others++
					break
				}
			}
		}
	})
	if others < 5 {
		t.Errorf("another one of equals: %d times", others)
	}
}

// What stood at the cells ahead doesn't matter.
func TestP16_2WhatStoodThereByChance(t *testing.T) {
	eachAsked(t, 1622, 100, func(r *rand.Rand, m *model, q asked) {
		want := waysOf(advise.All(m.pack, q.in, q.cells, q.target))
		other := q.in
		for _, cell := range q.cells {
			if r.Intn(2) == 0 {
				other = other.Drop(cell)
			} else {
				place, _ := m.graph.Place(int(cell))
				other = other.Put(cell, held(r, m.pack, kind{m.kindOf(cell), m.pack.Lines[place.Index].Options}))
			}
		}
		gives(t, "other picks ahead", advise.All(m.pack, other, q.cells, q.target), want...)
	})
}
