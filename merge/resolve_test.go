package merge_test

import (
	"math/rand"
	"slices"
	"testing"

	"levy/api"
	"levy/merge"
)

// resolves asks for what Resolve makes of some cells.
func resolves(t *testing.T, what string, from cells, c []api.Conflict, theirs []bool, want cells) {
	t.Helper()
	m := mapOf(from)
	got, e := merge.Resolve(m, c, theirs)
	if e != api.OK {
		t.Errorf("%s: error %d", what, e)
	}
	holds(t, what, got, want)
	holds(t, what+": the map handed in", m, from)
}

func TestP15_6Resolve(t *testing.T) {
	base, ours, theirs := cells{0: cent(1), 6: yes, 1: num(9)}, cells{0: cent(2)}, cells{6: yes, 1: num(10)}
	c := []api.Conflict{dispute(0, base, ours, theirs), dispute(6, base, ours, theirs), dispute(1, base, ours, theirs)}
	from := cells{0: cent(2), 5: cent(5)}
	resolves(t, "ours", from, c, []bool{false, false, false}, from)
	resolves(t, "theirs", from, c, []bool{true, true, true}, cells{6: yes, 1: num(10), 5: cent(5)})
	resolves(t, "the first", from, c, []bool{true, false, false}, cells{5: cent(5)})
	resolves(t, "the second", from, c, []bool{false, true, false}, cells{0: cent(2), 6: yes, 5: cent(5)})
	resolves(t, "the last", from, c, []bool{false, false, true}, cells{0: cent(2), 1: num(10), 5: cent(5)})
	resolves(t, "ours, into another map", cells{0: cent(7), 6: no, 9: yes}, c, []bool{false, false, false}, cells{0: cent(2), 9: yes})
}

func TestP15_6Count(t *testing.T) {
	c := []api.Conflict{{Ours: api.Change{Id: 1, Has: true}}, {}}
	for many := range 5 {
		m, e := merge.Resolve(mapOf(cells{3: yes}), c, make([]bool, many))
		if many == 2 {
			if m == nil || e != api.OK {
				t.Errorf("as many: %v, error %d", m, e)
			}
		} else if m != nil || e != api.ErrMergeCount {
			t.Errorf("%d decisions of 2 conflicts: %v, error %d", many, m, e)
		}
	}
	if m, e := merge.Resolve(nil, nil, []bool{false}); m != nil || e != 150 {
		t.Errorf("one of none: %v, error %d", m, e)
	}
	if m, e := merge.Resolve(nil, c, nil); m != nil || e != api.ErrMergeCount {
		t.Errorf("none of two: %v, error %d", m, e)
	}
}

// Without conflicts it is the map itself; no map is the empty one.
func TestP15_6None(t *testing.T) {
	m := mapOf(cells{3: yes, 300: blank})
	for _, c := range [][]api.Conflict{nil, {}} {
		for _, d := range [][]bool{nil, {}} {
			got, e := merge.Resolve(m, c, d)
			if e != api.OK {
				t.Errorf("error %d", e)
			}
			holds(t, "no conflicts", got, cells{3: yes, 300: blank})
			got, e = merge.Resolve(nil, c, d)
			if e != api.OK {
				t.Errorf("no map: error %d", e)
			}
			holds(t, "no map", got, cells{})
		}
	}
	got, e := merge.Resolve(nil, []api.Conflict{{Theirs: api.Change{Id: 4, Has: true, Now: cent(1)}}}, []bool{true})
	if e != api.OK {
		t.Errorf("error %d", e)
	}
	holds(t, "no map, one conflict", got, cells{4: cent(1)})
}

// Any conflicts: only the id, Has and Now of the side that is taken count, and a later one is laid over an earlier one.
func TestP15_6AnyConflicts(t *testing.T) {
	put := func(key uint32, v api.Value) api.Change { return api.Change{Id: key, Has: true, Now: v} }
	gone := func(key uint32) api.Change {
		return api.Change{Id: key, Had: true, Was: cent(1), Now: cent(2)}
	}
	unlike := []api.Conflict{{Base: put(1, yes), Ours: put(2, cent(2)), Theirs: put(3, cent(3))}}
	resolves(t, "unlike ids, ours", cells{1: no}, unlike, []bool{false}, cells{1: no, 2: cent(2)})
	resolves(t, "unlike ids, theirs", cells{1: no}, unlike, []bool{true}, cells{1: no, 3: cent(3)})
	resolves(t, "nothing, a value beside it", cells{1: no, 2: no}, []api.Conflict{{Ours: gone(1), Theirs: gone(2)}}, []bool{true}, cells{1: no})
	resolves(t, "blank is held", cells{}, []api.Conflict{{Ours: put(1, blank)}}, []bool{false}, cells{1: blank})
	twice := []api.Conflict{{Ours: put(1, cent(1)), Theirs: gone(1)}, {Ours: put(1, cent(2)), Theirs: gone(1)}}
	resolves(t, "twice, put and put", cells{}, twice, []bool{false, false}, cells{1: cent(2)})
	resolves(t, "twice, put and dropped", cells{}, twice, []bool{false, true}, cells{})
	resolves(t, "twice, dropped and put", cells{1: no}, twice, []bool{true, false}, cells{1: cent(2)})
}

// laid: the chapter's words, over cells.
func laid(from cells, c []api.Conflict, theirs []bool) cells {
	for i, x := range c {
		s := x.Ours
		if theirs[i] {
			s = x.Theirs
		}
		from = from.without(s.Id)
		if s.Has {
			from[s.Id] = s.Now
		}
	}
	return from
}

func TestP15_6ByChance(t *testing.T) {
	r := rand.New(rand.NewSource(156))
	for range 2000 {
		from := cells{}
		for range r.Intn(8) {
			from[pick(r, strangeKeys[:8]...)] = odd(r)
		}
		c := conflictsBy(r)
		theirs := make([]bool, len(c))
		for i := range theirs {
			theirs[i] = r.Intn(2) == 0
		}
		resolves(t, "by chance", from, c, theirs, laid(from, c, theirs))
	}
}

// Nothing but false, nothing but true (P15.10), over each of the ways in which sides may stand.
func TestP15_10Examples(t *testing.T) {
	p := example()
	base, ours, theirs := mapOf(cells{0: cent(1), 6: yes, 1: num(9), 300: yes}), mapOf(cells{0: cent(2), 300: no}), mapOf(cells{0: cent(3), 6: yes, 1: num(10), 7: yes})
	m, c := merge.Merge(p, base, ours, theirs)
	other, _ := merge.Merge(p, base, theirs, ours)
	if len(c) != 4 {
		t.Errorf("conflicts: %+v", c)
	}
	kept, _ := merge.Resolve(m, c, make([]bool, len(c)))
	holds(t, "nothing but false", kept, cellsOf(m))
	turned, _ := merge.Resolve(m, c, slices.Repeat([]bool{true}, len(c)))
	holds(t, "nothing but true", turned, cellsOf(other))
	holds(t, "the merged map", m, cells{0: cent(2), 7: yes, 300: no})
	holds(t, "the other way round", other, cells{0: cent(3), 6: yes, 1: num(10), 7: yes})
}
