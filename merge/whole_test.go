package merge_test

import (
	"maps"
	"math/rand"
	"slices"
	"testing"

	"levy/api"
	"levy/eval"
	"levy/merge"
	"levy/trie"
)

// All promises by packs and maps that chance makes, held against the model and against each other.

// the three sides, as cells and as maps.
type sides struct {
	base, ours, theirs    cells
	mBase, mOurs, mTheirs *trie.Map
}

// sidesOf makes the maps of three sides: ours and theirs out of the base, or each for itself; a map that holds nothing may be no map.
func sidesOf(r *rand.Rand, base, ours, theirs cells) sides {
	s := sides{base, ours, theirs, mapOf(base), mapOf(ours), mapOf(theirs)}
	if r.Intn(2) == 0 {
		s.mOurs, s.mTheirs = stepTo(s.mBase, base, ours), stepTo(s.mBase, base, theirs)
	}
	for _, m := range []**trie.Map{&s.mBase, &s.mOurs, &s.mTheirs} {
		if (*m).Len() == 0 && r.Intn(2) == 0 {
			*m = nil
		}
	}
	return s
}

// stepTo makes a map out of another one, so that they share nodes.
func stepTo(m *trie.Map, from, to cells) *trie.Map {
	for key := range from {
		if _, ok := to[key]; !ok {
			m = m.Drop(key)
		}
	}
	for key, v := range to {
		m = m.Put(key, v)
	}
	return m
}

// eachSides calls do with packs, and with maps over them: any maps, or maps that fit.
func eachSides(t *testing.T, seed int64, fit bool, do func(r *rand.Rand, m *model, s sides)) {
	t.Helper()
	eachMade(t, seed, 150, 24, func(r *rand.Rand, p api.Pack, m *model) {
		for range 12 {
			maps := m.oddMaps
			if fit {
				maps = m.fitMaps
			}
			base, ours, theirs := maps(r)
			s := sidesOf(r, base, ours, theirs)
			if do(r, m, s); t.Failed() {
				t.Fatalf("base %v, ours %v, theirs %v", base, ours, theirs)
			}
		}
	})
}

func TestP15_2AsTheModel(t *testing.T) {
	for seed, fit := range []bool{false, true} {
		eachSides(t, int64(1520+seed), fit, func(r *rand.Rand, m *model, s sides) {
			want := m.changes(s.ours, s.theirs)
			seq := merge.Changes(m.pack, s.mOurs, s.mTheirs)
			if l := slices.Collect(seq); !slices.Equal(l, want) {
				t.Errorf("%+v, want %+v", l, want)
			}
			if len(want) > 0 {
				many := 1 + r.Intn(len(want))
				if l := left(t, seq, many); !slices.Equal(l, want[:many]) {
					t.Errorf("left behind %d: %+v, want %+v", many, l, want[:many])
				}
			}
		})
	}
}

// What Changes gives is what Diff tells, but for the order.
func TestP15_2AsDiff(t *testing.T) {
	byKey := func(a, b api.Change) int { return int(int64(a.Id) - int64(b.Id)) }
	eachSides(t, 1521, false, func(r *rand.Rand, m *model, s sides) {
		a, b := mapOf(s.base), mapOf(s.theirs)
		if l := slices.SortedFunc(merge.Changes(m.pack, a, b), byKey); !slices.Equal(l, slices.Collect(trie.Diff(a, b))) {
			t.Errorf("%+v, want %+v", l, slices.Collect(trie.Diff(a, b)))
		}
	})
}

func TestP15_11ChangesLaidIn(t *testing.T) {
	eachSides(t, 1511, false, func(r *rand.Rand, m *model, s sides) {
		got := mapOf(s.ours)
		for c := range merge.Changes(m.pack, s.mOurs, s.mTheirs) {
			if v, ok := got.Get(c.Id); ok != c.Had || v != c.Was {
				t.Errorf("%+v, but there was %v, %t", c, v, ok)
			}
			if c.Has {
				got = got.Put(c.Id, c.Now)
			} else {
				got = got.Drop(c.Id)
			}
		}
		holds(t, "laid in", got, s.theirs)
	})
}

func TestP15_4AsTheModel(t *testing.T) {
	counts := tally{}
	for seed, fit := range []bool{false, true} {
		eachSides(t, int64(1540+seed), fit, func(r *rand.Rand, m *model, s sides) {
			want, disputes := m.merge(s.base, s.ours, s.theirs, counts)
			got, c := merge.Merge(m.pack, s.mBase, s.mOurs, s.mTheirs)
			holds(t, "merged", got, want)
			if !slices.Equal(c, disputes) {
				t.Errorf("conflicts %+v, want %+v", c, disputes)
			}
		})
	}
	for _, of := range []string{"of no row", "of a row", "of a row used in all"} {
		counts.atLeast(t, 200, "alike, "+of, "all theirs, "+of, "all ours, "+of)
	}
	counts.atLeast(t, 200, "ours, in dispute, of no row", "ours, in dispute, of a row used in all", "ours, in dispute, of a row in dispute", "alike, of a row in dispute")
}

func TestP15_7OneSideChanged(t *testing.T) {
	eachSides(t, 157, false, func(r *rand.Rand, m *model, s sides) {
		for _, x := range []struct {
			what               string
			base, ours, theirs *trie.Map
			want               cells
		}{
			{"theirs is the base", s.mBase, s.mOurs, s.mBase, s.ours},
			{"theirs is as the base", s.mBase, s.mOurs, mapOf(s.base), s.ours},
			{"ours is the base", s.mBase, s.mBase, s.mTheirs, s.theirs},
			{"ours is as the base", mapOf(s.base), s.mBase, s.mTheirs, s.theirs},
			{"both are the same", s.mBase, s.mOurs, s.mOurs, s.ours},
			{"both are as one", s.mBase, s.mOurs, mapOf(s.ours), s.ours},
			{"all are the same", s.mBase, s.mBase, s.mBase, s.base},
		} {
			got, c := merge.Merge(m.pack, x.base, x.ours, x.theirs)
			holds(t, x.what, got, x.want)
			if len(c) != 0 {
				t.Errorf("%s: conflicts %+v", x.what, c)
			}
		}
	})
}

func TestP15_8SidesExchanged(t *testing.T) {
	eachSides(t, 158, false, func(r *rand.Rand, m *model, s sides) {
		got, c := merge.Merge(m.pack, s.mBase, s.mOurs, s.mTheirs)
		other, d := merge.Merge(m.pack, s.mBase, s.mTheirs, s.mOurs)
		merged := cellsOf(got)
		for _, key := range m.inOrder(s.base, s.ours, s.theirs, merged) {
			if x := only(key, merged); !maps.Equal(x, only(key, s.ours)) && !maps.Equal(x, only(key, s.theirs)) {
				t.Errorf("at %d stands %v, which neither side holds", key, x)
			}
		}
		if !slices.Equal(c, swapped(d)) {
			t.Errorf("conflicts %+v, exchanged %+v", c, d)
		}
		var keys []uint32
		for _, x := range c {
			keys = append(keys, x.Ours.Id)
		}
		if l := keysOf(changes(m.pack, got, other)); !slices.Equal(l, keys) {
			t.Errorf("the merged maps differ at %v, the conflicts are at %v", l, keys)
		}
	})
}

func TestP15_9Fits(t *testing.T) {
	counts := tally{}
	eachSides(t, 159, true, func(r *rand.Rand, m *model, s sides) {
		v, _ := eval.New(m.pack)
		for _, c := range []cells{s.base, s.ours, s.theirs} {
			if e := v.Fits(mapOf(c)); e != api.OK {
				t.Fatalf("a side doesn't fit: error %d", e)
			}
		}
		got, c := merge.Merge(m.pack, s.mBase, s.mOurs, s.mTheirs)
		if e := v.Fits(got); e != api.OK {
			t.Errorf("%v doesn't fit: error %d", show(got), e)
		}
		if len(c) > 0 {
			counts["conflicts"]++
		} else if len(m.changes(s.ours, s.base)) > 0 && len(m.changes(s.theirs, s.base)) > 0 {
			counts["both changed, none"]++
		}
	})
	counts.atLeast(t, 100, "conflicts", "both changed, none")
}

func TestP15_10Resolved(t *testing.T) {
	eachSides(t, 1510, false, func(r *rand.Rand, m *model, s sides) {
		got, c := merge.Merge(m.pack, s.mBase, s.mOurs, s.mTheirs)
		other, _ := merge.Merge(m.pack, s.mBase, s.mTheirs, s.mOurs)
		kept, e := merge.Resolve(got, c, make([]bool, len(c)))
		if e != api.OK {
			t.Errorf("error %d", e)
		}
		holds(t, "nothing but false", kept, cellsOf(got))
		turned, e := merge.Resolve(got, c, slices.Repeat([]bool{true}, len(c)))
		if e != api.OK {
			t.Errorf("error %d", e)
		}
		holds(t, "nothing but true", turned, cellsOf(other))
	})
}
