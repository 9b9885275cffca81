package hist_test

import (
	"maps"
	"slices"
	"testing"

	"levy/api"
	"levy/hist"
	"levy/trie"
)

// many: versions that differ in keys, in kinds, in numbers, and not at all.
func many() []held {
	return []held{
		{3: cents(1), 9: cents(1), 7: cents(5)},
		{4: cents(1), 9: cents(2), 7: cents(5)},
		{},
		{0: {}, 1<<32 - 1: cents(1)},
		{0: {Kind: api.Blank, Num: 7}, 1<<32 - 1: {Kind: api.Count, Num: 1}},
		{4: cents(1), 9: cents(2), 7: cents(5)},
		{0: cents(1), 1: cents(1), 15: cents(1), 16: cents(1), 0x50000000: cents(1)},
		{0: cents(1), 1: cents(1), 15: cents(1), 16: cents(2), 0x50000000: cents(1)},
	}
}

func histOf(t *testing.T, all []held, undone int) *hist.Hist {
	t.Helper()
	h := hist.New(all[0].made())
	for _, c := range all[1:] {
		pushed(t, h, c.made())
	}
	for range undone {
		h.Undo()
	}
	return h
}

func TestP11_7Steps(t *testing.T) {
	all := many()
	for undone := range all {
		looksAs(t, "Steps", histOf(t, all, undone), all, undone)
	}
}

func TestP11_7StepsAsTheyAre(t *testing.T) {
	h := hist.New(one(0))
	seq := h.Steps()
	see := func(what string, first int, want ...int64) {
		t.Helper()
		got := steps(t, seq)
		for at, c := range ones(want...) {
			if len(got) != len(want) || got[at].number != first+at || !maps.Equal(got[at].held, c) {
				t.Fatalf("%s: %v, want %d from %d on", what, got, want, first)
			}
		}
	}
	see("at first", 0, 0)
	pushed(t, h, one(1))
	pushed(t, h, one(2))
	see("behind two Pushes", -2, 0, 1, 2)
	h.Undo()
	see("behind an Undo", -1, 0, 1, 2)
	h.Forget(1)
	see("behind a Forget", 0, 1, 2)
	pushed(t, h, one(3))
	see("behind a Push", -1, 1, 3)
	h.Clone().Undo()
	see("behind an Undo of a clone", -1, 1, 3)
}

func TestP11_7StepsLeft(t *testing.T) {
	h := grown(t, 6, 2)
	seq := h.Steps()
	for stop := range 6 {
		calls := 0
		seq(func(number int, m *trie.Map) bool {
			if number != calls-3 || !maps.Equal(opened(t, m), held{1: cents(int64(calls))}) {
				t.Errorf("version %d: %v", number, opened(t, m))
			}
			calls++
			return calls <= stop
		})
		if calls != stop+1 {
			t.Errorf("told to stop at %d: %d calls", stop, calls)
		}
		looksAs(t, "left early", h, upTo(5), 2)
	}
	if got := steps(t, seq); len(got) != 6 {
		t.Errorf("gone through again: %v", got)
	}
}

func TestP11_7StepsNested(t *testing.T) {
	h := grown(t, 4, 1)
	seq := h.Steps()
	var seen []int
	for a := range seq {
		for b := range seq {
			for c := range h.Steps() {
				seen = append(seen, a, b, c)
				break
			}
		}
	}
	var want []int
	for a := -2; a <= 1; a++ {
		for b := -2; b <= 1; b++ {
			want = append(want, a, b, -2)
		}
	}
	if !slices.Equal(seen, want) {
		t.Errorf("nested: %v", seen)
	}
}

func TestP11_7Touched(t *testing.T) {
	all := many()
	for undone := range all {
		touches(t, "Touched", histOf(t, all, undone), all, undone)
	}
	touches(t, "the most versions", grown(t, api.MaxHistory+1, 0), upTo(api.MaxHistory), 0)
	touches(t, "all undone", grown(t, api.MaxHistory+1, api.MaxHistory), upTo(api.MaxHistory), api.MaxHistory)
	touches(t, "one", hist.New(nil), []held{{}}, 0)
}

// Versions that share nodes, as one is made of the other.
func TestP11_7TouchedOfShared(t *testing.T) {
	m := trie.Empty()
	all := []held{{}}
	h := hist.New(nil)
	for i, id := range edges() {
		m = m.Put(id, cents(int64(i))).Put(7, cents(int64(i/2)))
		all = append(all, held(maps.Collect(m.All())))
		pushed(t, h, m)
	}
	for _, id := range edges() {
		m = m.Drop(id)
		all = append(all, held(maps.Collect(m.All())))
		pushed(t, h, m)
	}
	touches(t, "shared", h, all, 0)
}

func TestP11_7TouchedAsTheyAre(t *testing.T) {
	h := hist.New(held{3: cents(1)}.made())
	seq := h.Touched(-1, 0)
	redone := h.Touched(0, 1)
	see := func(what string, undone, ahead []uint32) {
		t.Helper()
		if got := keys(t, seq); !slices.Equal(got, undone) {
			t.Errorf("%s: Touched(-1, 0): %v, want %v", what, got, undone)
		}
		if got := keys(t, redone); !slices.Equal(got, ahead) {
			t.Errorf("%s: Touched(0, 1): %v, want %v", what, got, ahead)
		}
	}
	see("at first", nil, nil)
	pushed(t, h, held{3: cents(1), 4: cents(1)}.made())
	see("behind a Push", []uint32{4}, nil)
	pushed(t, h, held{3: cents(2), 5: cents(1)}.made())
	see("behind two Pushes", []uint32{3, 4, 5}, nil)
	h.Undo()
	see("behind an Undo", []uint32{4}, []uint32{3, 4, 5})
	h.Undo()
	see("behind two Undos", nil, []uint32{4})
	h.Redo()
	h.Forget(1)
	see("behind a Forget", nil, []uint32{3, 4, 5})
	pushed(t, h, nil)
	see("behind a Push of nil", []uint32{3, 4}, nil)
	h.Clone().Undo()
	see("behind an Undo of a clone", []uint32{3, 4}, nil)
}

func TestP11_7TouchedLeft(t *testing.T) {
	h := histOf(t, many(), 0)
	seq := h.Touched(-6, -1)
	want := []uint32{0, 1, 4, 7, 9, 15, 16, 0x50000000}
	for stop := range want {
		var got []uint32
		seq(func(id uint32) bool {
			got = append(got, id)
			return len(got) <= stop
		})
		if !slices.Equal(got, want[:stop+1]) {
			t.Errorf("told to stop at %d: %v", stop, got)
		}
	}
	var nested []uint32
	for a := range seq {
		for b := range seq {
			if b == a {
				nested = append(nested, a)
				break
			}
		}
	}
	if got := keys(t, seq); !slices.Equal(got, want) || !slices.Equal(nested, want) {
		t.Errorf("gone through again: %v, nested %v, want %v", got, nested, want)
	}
}

func TestP11Example3(t *testing.T) {
	h := histOf(t, []held{{3: cents(1), 9: cents(1)}, {9: cents(2), 4: cents(1)}}, 0)
	if got := keys(t, h.Touched(-1, 0)); !slices.Equal(got, []uint32{3, 4, 9}) {
		t.Errorf("Touched(-1, 0): %v", got)
	}
}

// A history isn't to be changed while it is gone through; a call still ends and doesn't panic, and the history is what the changes make of it.
func TestP11_7ChangedMeanwhile(t *testing.T) {
	for what, change := range changes() {
		for undone := range 5 {
			h, plain := grown(t, 5, undone), grown(t, 5, undone)
			calls := 0
			for range h.Steps() {
				if calls++; calls > 100 {
					t.Fatalf("%s: Steps doesn't end", what)
				}
				change(h)
				change(plain)
			}
			for range h.Touched(-1, 0) {
				change(h)
				change(plain)
			}
			undo, redo := plain.Depth()
			if u, r := h.Depth(); u != undo || r != redo {
				t.Errorf("%s: Depth %d, %d, want %d, %d", what, u, r, undo, redo)
			}
		}
	}
}
