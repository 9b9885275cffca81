package hist_test

import (
	"fmt"
	"maps"
	"math"
	"math/rand"
	"slices"
	"testing"

	"levy/api"
	"levy/hist"
	"levy/trie"
)

// All promises by scripts that chance makes (the same each time), held against a model and against each other.

// model: what the chapter says of a history: the versions by their numbers.
type model map[int]held

func (m model) below() int {
	n := 0
	for number := range m {
		if number < 0 {
			n++
		}
	}
	return n
}

func (m model) above() int { return len(m) - 1 - m.below() }

// shifted: the same versions, with numbers that are greater by so much.
func (m model) shifted(by int) model {
	made := model{}
	for number, c := range m {
		made[number+by] = c
	}
	return made
}

func (m model) push(c held) (model, api.Errno) {
	if m.below() == 32 {
		return m, api.ErrHistFull
	}
	made := m.shifted(-1)
	maps.DeleteFunc(made, func(number int, _ held) bool { return number >= 0 })
	made[0] = c
	return made, api.OK
}

func (m model) undo() (model, api.Errno) {
	if _, ok := m[-1]; !ok {
		return m, api.ErrHistUndo
	}
	return m.shifted(1), api.OK
}

func (m model) redo() (model, api.Errno) {
	if _, ok := m[1]; !ok {
		return m, api.ErrHistRedo
	}
	return m.shifted(-1), api.OK
}

func (m model) forget(n int) (model, api.Errno) {
	if n < 0 || n > m.below() {
		return m, api.ErrHistCount
	}
	made := maps.Clone(m)
	for _, number := range slices.Sorted(maps.Keys(m))[:n] {
		delete(made, number)
	}
	return made, api.OK
}

// inOrder: the versions from the oldest on.
func (m model) inOrder() []held {
	var l []held
	for _, number := range slices.Sorted(maps.Keys(m)) {
		l = append(l, m[number])
	}
	return l
}

// pair: a history, and what the chapter says of it.
type pair struct {
	hist  *hist.Hist
	model model
}

func (p pair) clone() *pair { return &pair{p.hist.Clone(), maps.Clone(p.model)} }

func (p pair) alike(t *testing.T, what string) {
	t.Helper()
	looksAs(t, what, p.hist, p.model.inOrder(), p.model.above())
}

// answered holds what Undo or Redo told against the model's present version.
func (p pair) answered(t *testing.T, what string, m *trie.Map, e, want api.Errno) {
	t.Helper()
	if e != want || (m == nil) != (e != api.OK) {
		t.Fatalf("%s: %v, error %d, want error %d", what, m, int(e), int(want))
	}
	if m != nil && !maps.Equal(opened(t, m), p.model[0]) {
		t.Fatalf("%s: %v, want %v", what, opened(t, m), p.model[0])
	}
}

// next: a map made of one of the history's by chance, or of none, and what it holds.
func next(r *rand.Rand, from held, m *trie.Map) (held, *trie.Map) {
	if r.Intn(12) == 0 {
		return held{}, nil
	}
	if r.Intn(6) == 0 {
		from, m = held{}, trie.Empty()
	}
	c := maps.Clone(from)
	for range r.Intn(4) {
		id := edges()[r.Intn(len(edges()))]
		if r.Intn(3) == 0 {
			delete(c, id)
			m = m.Drop(id)
			continue
		}
		c[id] = odd()[r.Intn(len(odd()))]
		m = m.Put(id, c[id])
	}
	return c, m
}

// act does one thing to both, by chance; push: how often of ten a Push.
func (p *pair) act(t *testing.T, r *rand.Rand, push int, counts tally) string {
	t.Helper()
	var want api.Errno
	what := "Push"
	switch n := r.Intn(10); {
	case n < push:
		c, m := next(r, p.model[0], p.hist.Now())
		p.model, want = p.model.push(c)
		if e := p.hist.Push(m); e != want {
			t.Fatalf("Push: error %d, want %d", int(e), int(want))
		}
	case n == 9 && r.Intn(3) == 0:
		what = "Forget"
		count := []int{-1, 0, 1, 2, r.Intn(34), p.model.below(), p.model.below() + 1, math.MaxInt, math.MinInt}[r.Intn(9)]
		p.model, want = p.model.forget(count)
		if e := p.hist.Forget(count); e != want {
			t.Fatalf("Forget(%d): error %d, want %d", count, int(e), int(want))
		}
	case n%2 == 0:
		what = "Undo"
		p.model, want = p.model.undo()
		m, e := p.hist.Undo()
		p.answered(t, what, m, e, want)
	default:
		what = "Redo"
		p.model, want = p.model.redo()
		m, e := p.hist.Redo()
		p.answered(t, what, m, e, want)
	}
	counts[fmt.Sprint(what, " ", int(want))]++
	return what
}

// scripts runs scripts over histories and clones of them; look sees each behind each step.
func scripts(t *testing.T, seed int64, count int, look func(p *pair, what string)) {
	t.Helper()
	r := rand.New(rand.NewSource(seed))
	counts := tally{}
	for range count {
		c, m := next(r, held{}, trie.Empty())
		pairs := []*pair{{hist.New(m), model{0: c}}}
		push := 3 + r.Intn(7)
		for range 90 {
			i := r.Intn(len(pairs))
			if len(pairs) < 3 && r.Intn(15) == 0 {
				pairs = append(pairs, pairs[i].clone())
				counts["Clone"]++
			}
			look(pairs[i], pairs[i].act(t, r, push, counts))
		}
		for _, p := range pairs {
			p.alike(t, "at the end")
		}
		if t.Failed() {
			return
		}
	}
	counts.atLeast(t, 20, "Push 0", "Push 110", "Undo 0", "Undo 111", "Redo 0", "Redo 112", "Forget 0", "Forget 113", "Clone")
}

func TestP11_1AsTheModel(t *testing.T) {
	scripts(t, 111, 150, func(p *pair, what string) { p.alike(t, what) })
}

func TestP11_7TouchedAsTheModel(t *testing.T) {
	at := 0
	scripts(t, 117, 60, func(p *pair, what string) {
		if at++; at%60 == 0 {
			touches(t, what, p.hist, p.model.inOrder(), p.model.above())
		}
	})
}

// A change taken back, and made again.
func TestP11_9Back(t *testing.T) {
	scripts(t, 119, 100, func(p *pair, what string) {
		h := p.hist.Clone()
		all, above, now := p.model.inOrder(), p.model.above(), p.model[0]
		if h.Push(one(55)) == api.OK {
			m, e := h.Undo()
			if e != api.OK || !maps.Equal(opened(t, m), now) || !maps.Equal(opened(t, h.Now()), now) {
				t.Fatalf("behind %s: Push and Undo: error %d", what, int(e))
			}
			if m, e := h.Redo(); e != api.OK || !maps.Equal(opened(t, m), held{1: cents(55)}) {
				t.Fatalf("behind %s: Push, Undo and Redo: error %d", what, int(e))
			}
		}
		h = p.hist.Clone()
		if _, e := h.Undo(); e == api.OK {
			if m, e := h.Redo(); e != api.OK || !maps.Equal(opened(t, m), now) {
				t.Fatalf("behind %s: Undo and Redo: error %d", what, int(e))
			}
			looksAs(t, "Undo and Redo", h, all, above)
		}
	})
}

func TestP11_9ThereAndBack(t *testing.T) {
	for versions := 1; versions <= api.MaxHistory+1; versions++ {
		all := upTo(int64(versions - 1))
		for _, undone := range []int{0, versions / 3, versions - 1} {
			h := grown(t, versions, undone)
			for n := range versions - undone {
				for range n {
					h.Undo()
				}
				for range n {
					h.Redo()
				}
				looksAs(t, "Undos and Redos", h, all, undone)
			}
		}
	}
}

func TestP11_10Bound(t *testing.T) {
	most, together := 0, 0
	scripts(t, 1110, 150, func(p *pair, what string) {
		undo, redo := p.hist.Depth()
		if undo > 32 || undo+redo > 32 || undo < 0 || redo < 0 {
			t.Fatalf("behind %s: Depth %d, %d", what, undo, redo)
		}
		if n := len(steps(t, p.hist.Steps())); n != undo+redo+1 {
			t.Fatalf("behind %s: %d versions, Depth %d, %d", what, n, undo, redo)
		}
		most = max(most, undo)
		if redo > 0 {
			together = max(together, undo+redo)
		}
	})
	if most != 32 || together != 32 {
		t.Errorf("the bound wasn't met: %d, %d", most, together)
	}
}

// A distance: none from a version to itself, the same both ways, and no way round leaves out a key.
func TestP11_11Touched(t *testing.T) {
	at, gave := 0, 0
	scripts(t, 1111, 40, func(p *pair, what string) {
		if at++; at%40 != 0 {
			return
		}
		undo, redo := p.hist.Depth()
		touched := map[[2]int][]uint32{}
		for a := -undo; a <= redo; a++ {
			for b := -undo; b <= redo; b++ {
				touched[[2]int{a, b}] = keys(t, p.hist.Touched(a, b))
			}
			if l := touched[[2]int{a, a}]; len(l) != 0 {
				t.Fatalf("behind %s: Touched(%d, %d): %v", what, a, a, l)
			}
		}
		for ac, l := range touched {
			if back := touched[[2]int{ac[1], ac[0]}]; !slices.Equal(back, l) {
				t.Fatalf("behind %s: Touched%v: %v, the other way %v", what, ac, l, back)
			}
			gave += len(l)
			for b := -undo; b <= redo; b++ {
				for _, id := range l {
					if !slices.Contains(touched[[2]int{ac[0], b}], id) && !slices.Contains(touched[[2]int{b, ac[1]}], id) {
						t.Fatalf("behind %s: Touched%v gives %d, none by %d", what, ac, id, b)
					}
				}
			}
		}
	})
	if gave == 0 {
		t.Error("no key was touched")
	}
}
