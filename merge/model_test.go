package merge_test

import (
	"maps"
	"slices"
	"testing"

	"levy/api"
	"levy/graph"
)

// model: the chapter's words, over a pack.
type model struct {
	pack  api.Pack
	graph *graph.Graph
}

func modelOf(t *testing.T, p api.Pack) *model {
	t.Helper()
	g, _, e := graph.New(p)
	if g == nil || e != api.OK {
		t.Fatalf("graph.New(%+v): error %d", p, e)
	}
	return &model{p, g}
}

// rowOf: the group and row that a key belongs to (P15.1).
func (m *model) rowOf(key uint32) (group, row int, ok bool) {
	place, _ := m.graph.Place(int(key))
	switch {
	case place.Kind == api.PlaceFlag:
		return place.Index, place.Row, true
	case place.Kind == api.PlaceLine && m.pack.Lines[place.Index].Input && m.pack.Lines[place.Index].Group >= 0:
		return m.pack.Lines[place.Index].Group, place.Row, true
	}
	return 0, 0, false
}

// isLoose: whether a key is a cell of an input line of no group.
func (m *model) isLoose(key uint32) bool {
	place, _ := m.graph.Place(int(key))
	return place.Kind == api.PlaceLine && m.pack.Lines[place.Index].Input && m.pack.Lines[place.Index].Group == -1
}

// rank: numbers by which the form's order goes, from the first on.
func (m *model) rank(key uint32) []int {
	if m.isLoose(key) {
		return []int{0, int(key)}
	}
	group, row, ok := m.rowOf(key)
	if !ok {
		return []int{2, int(key)}
	}
	place, _ := m.graph.Place(int(key))
	if place.Kind == api.PlaceFlag {
		return []int{1, group, row, -1}
	}
	return []int{1, group, row, place.Index}
}

// inOrder: the keys of some maps in the form's order, each once.
func (m *model) inOrder(lists ...cells) []uint32 {
	var l []uint32
	for _, c := range lists {
		for key := range c {
			l = append(l, key)
		}
	}
	slices.SortFunc(l, func(a, b uint32) int { return slices.Compare(m.rank(a), m.rank(b)) })
	return slices.Compact(l)
}

func (m *model) changes(a, b cells) []api.Change {
	var l []api.Change
	for _, key := range m.inOrder(a, b) {
		c := api.Change{Id: key}
		c.Was, c.Had = a[key]
		c.Now, c.Has = b[key]
		if c.Had != c.Has || c.Was != c.Now {
			l = append(l, c)
		}
	}
	return l
}

// within: what of some cells belongs to the row of a key.
func (m *model) within(key uint32, c cells) cells {
	group, row, _ := m.rowOf(key)
	in := cells{}
	for k, v := range c {
		if g, r, ok := m.rowOf(k); ok && g == group && r == row {
			in[k] = v
		}
	}
	return in
}

// used: whether the row of a key is used in some cells.
func (m *model) used(key uint32, c cells) bool {
	group, row, _ := m.rowOf(key)
	flag, _ := m.graph.Flag(group, row)
	v, ok := c[uint32(flag)]
	return ok && v.Kind == api.Flag && v.Num == 1
}

// The ways in which a key is merged.
const (
	alikeBoth = "alike"
	allTheirs = "all theirs"
	allOurs   = "all ours"
	apart     = "ours, in dispute"
)

// way: P15.3, of three sides.
func way(base, ours, theirs cells) string {
	switch {
	case maps.Equal(ours, theirs):
		return alikeBoth
	case maps.Equal(ours, base):
		return allTheirs
	case maps.Equal(theirs, base):
		return allOurs
	}
	return apart
}

// only: what some cells hold at a key.
func only(key uint32, c cells) cells {
	if v, ok := c[key]; ok {
		return cells{key: v}
	}
	return nil
}

// wayOf: P15.3 and P15.4, of a key; what the second tells is whether it is one of a row, and if so, whether that is used in all three.
func (m *model) wayOf(key uint32, base, ours, theirs cells) (string, string) {
	alone := way(only(key, base), only(key, ours), only(key, theirs))
	if _, _, ok := m.rowOf(key); !ok {
		return alone, "of no row"
	}
	together := way(m.within(key, base), m.within(key, ours), m.within(key, theirs))
	switch {
	case together != apart:
		return together, "of a row"
	case m.used(key, base) && m.used(key, ours) && m.used(key, theirs):
		return alone, "of a row used in all"
	case alone == alikeBoth:
		return alikeBoth, "of a row in dispute"
	}
	return apart, "of a row in dispute"
}

func (m *model) merge(base, ours, theirs cells, counts tally) (cells, []api.Conflict) {
	merged := cells{}
	var l []api.Conflict
	for _, key := range m.inOrder(base, ours, theirs) {
		how, of := m.wayOf(key, base, ours, theirs)
		counts[how+", "+of]++
		taken := ours
		if how == allTheirs {
			taken = theirs
		}
		maps.Copy(merged, only(key, taken))
		if how == apart {
			l = append(l, dispute(key, base, ours, theirs))
		}
	}
	return merged, l
}

// tally counts what came about, so that chance leaves nothing out.
type tally map[string]int

func (c tally) atLeast(t *testing.T, n int, what ...string) {
	t.Helper()
	for _, x := range what {
		if c[x] < n {
			t.Errorf("%s: %d times", x, c[x])
		}
	}
}
