package hist_test

import (
	"maps"
	"math"
	"testing"

	"levy/api"
	"levy/hist"
	"levy/trie"
)

func TestP11_1New(t *testing.T) {
	for _, id := range edges() {
		for _, v := range odd() {
			c := held{id: v}
			looksAs(t, "one key", hist.New(c.made()), []held{c}, 0)
		}
	}
	looksAs(t, "empty", hist.New(trie.Empty()), []held{{}}, 0)
	looksAs(t, "nil", hist.New(nil), []held{{}}, 0)
}

func TestP11_1NewApart(t *testing.T) {
	m := one(1)
	a, b := hist.New(m), hist.New(m)
	pushed(t, a, one(2))
	looksAs(t, "the first", a, ones(1, 2), 0)
	looksAs(t, "the second", b, ones(1), 0)
	looksAs(t, "a later one", hist.New(nil), []held{{}}, 0)
}

func TestP11_2Now(t *testing.T) {
	h := grown(t, 5, 0)
	for _, want := range []int64{4, 3, 2, 1, 0} {
		for range 3 {
			if got := opened(t, h.Now()); !maps.Equal(got, held{1: cents(want)}) {
				t.Errorf("Now holds %v, want %d", got, want)
			}
		}
		h.Undo()
	}
	looksAs(t, "behind Now", h, ones(0, 1, 2, 3, 4), 4)
}

// What is made of the map that Now tells is no change of the history.
func TestP11_2NowIsNoHandle(t *testing.T) {
	h := grown(t, 2, 0)
	h.Now().Put(1, cents(99)).Put(2, cents(3)).Drop(1)
	h.Now().Drop(1)
	looksAs(t, "behind Put and Drop", h, ones(0, 1), 0)
}

func TestP11_3Push(t *testing.T) {
	h := hist.New(one(0))
	var all []held
	for n := range api.MaxHistory + 1 {
		if n > 0 {
			pushed(t, h, one(int64(n)))
		}
		all = append(all, held{1: cents(int64(n))})
		looksAs(t, "Push", h, all, 0)
	}
}

// A version that holds what the present one holds is one more.
func TestP11_3PushOfTheSame(t *testing.T) {
	m := one(7)
	h := hist.New(m)
	pushed(t, h, m)
	pushed(t, h, one(7))
	pushed(t, h, h.Now())
	looksAs(t, "the same", h, ones(7, 7, 7, 7), 0)
	h.Undo()
	pushed(t, h, h.Now())
	looksAs(t, "the same behind an Undo", h, ones(7, 7, 7, 7), 0)
}

func TestP11_3PushOfNil(t *testing.T) {
	h := hist.New(one(0))
	pushed(t, h, nil)
	pushed(t, h, trie.Empty())
	pushed(t, h, nil)
	looksAs(t, "nil", h, []held{{1: cents(0)}, {}, {}, {}}, 0)
	if m, e := h.Undo(); e != api.OK || m == nil || m.Len() != 0 {
		t.Errorf("Undo to the empty map: %v, error %d", m, int(e))
	}
	if m, e := h.Redo(); e != api.OK || m == nil || m.Len() != 0 {
		t.Errorf("Redo of nil: %v, error %d", m, int(e))
	}
}

// All versions above 0 are forgotten, and no other one.
func TestP11_3PushForgets(t *testing.T) {
	for versions := 1; versions <= api.MaxHistory+1; versions++ {
		for undone := range versions {
			h := grown(t, versions, undone)
			present := versions - 1 - undone
			if present == api.MaxHistory {
				continue
			}
			pushed(t, h, one(99))
			var all []held
			for n := range present + 1 {
				all = append(all, held{1: cents(int64(n))})
			}
			looksAs(t, "Push behind Undos", h, append(all, held{1: cents(99)}), 0)
			if m, e := h.Redo(); m != nil || e != api.ErrHistRedo {
				t.Errorf("Redo behind Push: %v, error %d", m, int(e))
			}
		}
	}
}

func upTo(n int64) []held {
	var l []int64
	for i := range n + 1 {
		l = append(l, i)
	}
	return ones(l...)
}

func TestP11_3Full(t *testing.T) {
	h := grown(t, api.MaxHistory, 0)
	looksAs(t, "one less than full", h, upTo(api.MaxHistory-1), 0)
	pushed(t, h, one(api.MaxHistory))
	for _, m := range []*trie.Map{one(99), nil, h.Now(), trie.Empty()} {
		if e := h.Push(m); e != api.ErrHistFull {
			t.Errorf("Push at the bound: error %d", int(e))
		}
		looksAs(t, "a refused Push", h, upTo(api.MaxHistory), 0)
	}
	h.Undo()
	pushed(t, h, one(api.MaxHistory))
	looksAs(t, "Undo and Push", h, upTo(api.MaxHistory), 0)
	if e := h.Push(nil); e != api.ErrHistFull {
		t.Errorf("Push at the bound again: error %d", int(e))
	}
}

// Versions above 0 don't count toward the bound of Push.
func TestP11_3FullCountsBelow(t *testing.T) {
	h := grown(t, api.MaxHistory+1, api.MaxHistory)
	for range api.MaxHistory {
		h.Redo()
	}
	if e := h.Push(nil); e != api.ErrHistFull {
		t.Errorf("Push behind Redos: error %d", int(e))
	}
	h.Undo()
	looksAs(t, "one undone", h, upTo(api.MaxHistory), 1)
	pushed(t, h, nil)
}

func TestP11_4UndoRedo(t *testing.T) {
	const most = api.MaxHistory
	h := grown(t, most+1, 0)
	for undone := 1; undone <= most; undone++ {
		m, e := h.Undo()
		if want := int64(most - undone); e != api.OK || !maps.Equal(opened(t, m), held{1: cents(want)}) {
			t.Fatalf("Undo %d: %v, error %d", undone, opened(t, m), int(e))
		}
		looksAs(t, "Undo", h, upTo(most), undone)
	}
	for undone := most - 1; undone >= 0; undone-- {
		m, e := h.Redo()
		if want := int64(most - undone); e != api.OK || !maps.Equal(opened(t, m), held{1: cents(want)}) {
			t.Fatalf("Redo to %d: %v, error %d", want, opened(t, m), int(e))
		}
		looksAs(t, "Redo", h, upTo(most), undone)
	}
}

func TestP11_4None(t *testing.T) {
	for versions := 1; versions <= 4; versions++ {
		all := upTo(int64(versions - 1))
		h := grown(t, versions, versions-1)
		for range 2 {
			if m, e := h.Undo(); m != nil || e != api.ErrHistUndo {
				t.Errorf("Undo of none: %v, error %d", m, int(e))
			}
			looksAs(t, "a refused Undo", h, all, versions-1)
		}
		h = grown(t, versions, 0)
		for range 2 {
			if m, e := h.Redo(); m != nil || e != api.ErrHistRedo {
				t.Errorf("Redo of none: %v, error %d", m, int(e))
			}
			looksAs(t, "a refused Redo", h, all, 0)
		}
	}
}

func TestP11_5Depth(t *testing.T) {
	for versions := 1; versions <= api.MaxHistory+1; versions++ {
		for undone := range versions {
			h := grown(t, versions, undone)
			for range 2 {
				if undo, redo := h.Depth(); undo != versions-1-undone || redo != undone {
					t.Errorf("%d versions, %d undone: Depth %d, %d", versions, undone, undo, redo)
				}
			}
		}
	}
}

func TestP11_6Forget(t *testing.T) {
	for _, versions := range []int{1, 2, 3, 6, api.MaxHistory, api.MaxHistory + 1} {
		all := upTo(int64(versions - 1))
		for undone := range versions {
			below := versions - 1 - undone
			for n := range below + 1 {
				h := grown(t, versions, undone)
				if e := h.Forget(n); e != api.OK {
					t.Errorf("Forget(%d) of %d: error %d", n, below, int(e))
				}
				looksAs(t, "Forget", h, all[n:], undone)
			}
		}
	}
}

func TestP11_6ForgetTooMany(t *testing.T) {
	for versions := 1; versions <= 5; versions++ {
		all := upTo(int64(versions - 1))
		for undone := range versions {
			below := versions - 1 - undone
			h := grown(t, versions, undone)
			for _, n := range []int{-1, -2, math.MinInt, below + 1, below + 2, versions + 1, math.MaxInt} {
				if e := h.Forget(n); e != api.ErrHistCount {
					t.Errorf("Forget(%d) of %d: error %d", n, below, int(e))
				}
				looksAs(t, "a refused Forget", h, all, undone)
			}
		}
	}
}

// What is forgotten makes room, and can't be undone to.
func TestP11_6ForgetMakesRoom(t *testing.T) {
	h := grown(t, api.MaxHistory+1, 0)
	if e := h.Forget(2); e != api.OK {
		t.Fatalf("Forget: error %d", int(e))
	}
	pushed(t, h, one(api.MaxHistory+1))
	pushed(t, h, one(api.MaxHistory+2))
	if e := h.Push(nil); e != api.ErrHistFull {
		t.Errorf("Push at the bound: error %d", int(e))
	}
	looksAs(t, "two forgotten, two more", h, upTo(api.MaxHistory + 2)[2:], 0)
	for range api.MaxHistory {
		h.Undo()
	}
	if m, e := h.Undo(); m != nil || e != api.ErrHistUndo {
		t.Errorf("Undo to what is forgotten: %v, error %d", m, int(e))
	}
}

func TestP11_8Clone(t *testing.T) {
	for _, versions := range []int{1, 2, 5, api.MaxHistory + 1} {
		for undone := range versions {
			h := grown(t, versions, undone)
			looksAs(t, "Clone", h.Clone(), upTo(int64(versions-1)), undone)
			looksAs(t, "what was cloned", h, upTo(int64(versions-1)), undone)
		}
	}
}

// changes: each way to change a history.
func changes() map[string]func(*hist.Hist) {
	return map[string]func(*hist.Hist){
		"Push":           func(h *hist.Hist) { h.Push(one(77)) },
		"Push twice":     func(h *hist.Hist) { h.Push(one(77)); h.Push(one(78)) },
		"Undo":           func(h *hist.Hist) { h.Undo() },
		"Redo":           func(h *hist.Hist) { h.Redo() },
		"Forget":         func(h *hist.Hist) { h.Forget(1) },
		"Forget, Push":   func(h *hist.Hist) { h.Forget(1); h.Push(one(77)) },
		"Undo, Push":     func(h *hist.Hist) { h.Undo(); h.Push(one(77)) },
		"Redo, Push":     func(h *hist.Hist) { h.Redo(); h.Push(one(77)) },
		"all undone":     func(h *hist.Hist) { h.Undo(); h.Undo(); h.Undo(); h.Push(one(77)); h.Push(one(78)) },
		"Clone and Push": func(h *hist.Hist) { h.Clone().Push(one(77)) },
	}
}

func TestP11_8Apart(t *testing.T) {
	for what, change := range changes() {
		for undone := range 5 {
			h := grown(t, 5, undone)
			c := h.Clone()
			change(c)
			looksAs(t, what+" of the clone", h, upTo(4), undone)
			h = grown(t, 5, undone)
			c = h.Clone()
			change(h)
			looksAs(t, what+" of the first", c, upTo(4), undone)
			d := c.Clone()
			for other, more := range changes() {
				more(c)
				looksAs(t, other+" of a clone's clone", d, upTo(4), undone)
				c = d.Clone()
			}
		}
	}
}

// Both push into what they had in common: neither sees the other's.
func TestP11_8BothPush(t *testing.T) {
	for undone := range 4 {
		h := grown(t, 4, undone)
		c := h.Clone()
		pushed(t, h, one(70))
		pushed(t, c, one(80))
		pushed(t, h, one(71))
		pushed(t, c, one(81))
		first := upTo(int64(3 - undone))
		looksAs(t, "the first", h, append(first[:len(first):len(first)], ones(70, 71)...), 0)
		looksAs(t, "the clone", c, append(first[:len(first):len(first)], ones(80, 81)...), 0)
	}
}

func TestP11Example1(t *testing.T) {
	h := hist.New(one(0))
	pushed(t, h, one(1))
	pushed(t, h, one(2))
	looksAs(t, "two pushed", h, ones(0, 1, 2), 0)
	if m, e := h.Undo(); e != api.OK || !maps.Equal(opened(t, m), held{1: cents(1)}) {
		t.Errorf("Undo: %v, error %d", m, int(e))
	}
	looksAs(t, "Undo", h, ones(0, 1, 2), 1)
	pushed(t, h, one(3))
	looksAs(t, "Push", h, ones(0, 1, 3), 0)
	if m, e := h.Redo(); m != nil || e != api.ErrHistRedo {
		t.Errorf("Redo: %v, error %d", m, int(e))
	}
	if e := h.Forget(3); e != api.ErrHistCount {
		t.Errorf("Forget(3): error %d", int(e))
	}
	if e := h.Forget(2); e != api.OK {
		t.Errorf("Forget(2): error %d", int(e))
	}
	if m, e := h.Undo(); m != nil || e != api.ErrHistUndo {
		t.Errorf("Undo: %v, error %d", m, int(e))
	}
	looksAs(t, "at the end", h, ones(3), 0)
}
