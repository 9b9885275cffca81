package hist_test

import (
	"fmt"
	"iter"
	"maps"
	"math"
	"slices"
	"testing"

	"levy/api"
	"levy/hist"
	"levy/trie"
)

// held: what a map holds.
type held map[uint32]api.Value

func cents(n int64) api.Value { return api.Value{Kind: api.Cents, Num: n} }

// one: a map that holds n at the key 1.
func one(n int64) *trie.Map { return trie.Empty().Put(1, cents(n)) }

// ones: what such maps hold.
func ones(l ...int64) []held {
	var all []held
	for _, n := range l {
		all = append(all, held{1: cents(n)})
	}
	return all
}

// made: a map that holds just that.
func (c held) made() *trie.Map {
	m := trie.Empty()
	for _, id := range slices.Sorted(maps.Keys(c)) {
		m = m.Put(id, c[id])
	}
	return m
}

// opened: what a map holds, as Get and All both tell it.
func opened(t *testing.T, m *trie.Map) held {
	t.Helper()
	if m == nil {
		t.Fatal("a map that is answered is nil")
	}
	c := held(maps.Collect(m.All()))
	for id, v := range c {
		if got, ok := m.Get(id); !ok || got != v || m.Len() != len(c) {
			t.Fatalf("the map holds %v, %t at %d, want %v; Len %d", got, ok, id, v, m.Len())
		}
	}
	return c
}

// differs: the keys at which two differ, rising.
func differs(a, b held) []uint32 {
	var l []uint32
	all := maps.Clone(a)
	maps.Copy(all, b)
	for _, id := range slices.Sorted(maps.Keys(all)) {
		x, hasX := a[id]
		y, hasY := b[id]
		if hasX != hasY || x != y {
			l = append(l, id)
		}
	}
	return l
}

// edges: keys at both ends, and such as hang on one node or on none together.
func edges() []uint32 { return []uint32{0, 1, 2, 15, 16, 255, 0x50000000, math.MaxUint32} }

// odd: values, such too as the layers above never store.
func odd() []api.Value {
	return []api.Value{{}, {Kind: api.Blank, Num: 7}, cents(1), cents(2), {Kind: api.Count, Num: 1}, {Kind: -3}, {Kind: math.MaxInt, Num: math.MinInt64}}
}

// grown: a history of maps that hold the numbers from 0 on, the last of them undone.
func grown(t *testing.T, versions, undone int) *hist.Hist {
	t.Helper()
	h := hist.New(one(0))
	for n := 1; n < versions; n++ {
		pushed(t, h, one(int64(n)))
	}
	for range undone {
		if _, e := h.Undo(); e != api.OK {
			t.Fatalf("Undo: error %d", int(e))
		}
	}
	return h
}

func pushed(t *testing.T, h *hist.Hist, m *trie.Map) {
	t.Helper()
	if e := h.Push(m); e != api.OK {
		t.Fatalf("Push: error %d", int(e))
	}
}

// step: a version with its number.
type step struct {
	number int
	held   held
}

func steps(t *testing.T, seq iter.Seq2[int, *trie.Map]) []step {
	t.Helper()
	if seq == nil {
		t.Fatal("Steps is nil")
	}
	var l []step
	for number, m := range seq {
		l = append(l, step{number, opened(t, m)})
	}
	return l
}

func keys(t *testing.T, seq iter.Seq[uint32]) []uint32 {
	t.Helper()
	if seq == nil {
		t.Fatal("Touched is nil")
	}
	return slices.Collect(seq)
}

// numbers: every number that a history may have, some beyond, and the ends.
func numbers() []int {
	l := []int{math.MinInt, math.MinInt + 1, math.MinInt + api.MaxHistory, math.MaxInt - api.MaxHistory, math.MaxInt - 1, math.MaxInt}
	for n := -api.MaxHistory - 2; n <= api.MaxHistory+2; n++ {
		l = append(l, n)
	}
	return l
}

// looksAs holds all that a history tells against its versions, from the oldest on, of which so many were undone.
func looksAs(t *testing.T, what string, h *hist.Hist, all []held, undone int) {
	t.Helper()
	present := len(all) - 1 - undone
	if undo, redo := h.Depth(); undo != present || redo != undone {
		t.Errorf("%s: Depth %d, %d, want %d, %d", what, undo, redo, present, undone)
	}
	if got := opened(t, h.Now()); !maps.Equal(got, all[present]) {
		t.Errorf("%s: Now holds %v, want %v", what, got, all[present])
	}
	got := steps(t, h.Steps())
	if len(got) != len(all) {
		t.Fatalf("%s: %d versions, want %d: %v", what, len(got), len(all), got)
	}
	for at, s := range got {
		if s.number != at-present || !maps.Equal(s.held, all[at]) {
			t.Errorf("%s: version %d holds %v, want %d: %v", what, s.number, s.held, at-present, all[at])
		}
	}
}

// touches holds what Touched tells of all numbers against the versions.
func touches(t *testing.T, what string, h *hist.Hist, all []held, undone int) {
	t.Helper()
	version := map[int]held{}
	for at, c := range all {
		version[at-(len(all)-1-undone)] = c
	}
	for _, from := range numbers() {
		for _, to := range numbers() {
			a, hasA := version[from]
			b, hasB := version[to]
			var want []uint32
			if hasA && hasB {
				want = differs(a, b)
			}
			if got := keys(t, h.Touched(from, to)); !slices.Equal(got, want) {
				t.Fatalf("%s: Touched(%d, %d): %v, want %v", what, from, to, got, want)
			}
		}
	}
}

// tally counts what came about, so that chance leaves nothing out.
type tally map[string]int

func (c tally) atLeast(t *testing.T, n int, what ...string) {
	t.Helper()
	for _, x := range what {
		if c[x] < n {
			t.Errorf("%s: %d times of %v", x, c[x], fmt.Sprint(c))
		}
	}
}
