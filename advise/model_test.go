package advise_test

import (
	"cmp"
	"slices"
	"testing"

	"levy/api"
	"levy/eval"
	"levy/graph"
	"levy/trie"
)

// model: the chapter's words, over a pack that eval.New takes; every worth is reckoned from scratch.
type model struct {
	pack  api.Pack
	graph *graph.Graph
	eval  *eval.Eval
}

func modelOf(t *testing.T, p api.Pack) *model {
	t.Helper()
	v, e := eval.New(p)
	if v == nil || e != api.OK {
		t.Fatalf("eval.New(%+v): error %d", p, e)
	}
	g, _, _ := graph.New(p)
	return &model{p, g, v}
}

// options: how many options a cell has; 0, if it can't be chosen.
func (m *model) options(in *trie.Map, cell uint32) int {
	for i, l := range m.pack.Lines {
		for row := range api.MaxRows {
			c, ok := m.graph.Cell(i, row)
			if !ok || uint32(c) != cell || !l.Input {
				continue
			}
			if l.Group >= 0 && !m.used(in, l.Group, row) {
				return 0
			}
			switch l.Type {
			case api.Flag:
				return 2
			case api.Choice:
				return len(m.pack.Options[l.Options].Names)
			}
		}
	}
	return 0
}

func (m *model) used(in *trie.Map, group, row int) bool {
	cell, _ := m.graph.Flag(group, row)
	v, _ := in.Get(uint32(cell))
	return v == yes
}

// refusal: P16.1, over a pack that is well formed.
func (m *model) refusal(in *trie.Map, cells []uint32, target uint32) api.Errno {
	if e := m.eval.Fits(in); e != api.OK {
		return e
	}
	sorted := slices.Sorted(slices.Values(cells))
	if len(slices.Compact(sorted)) != len(cells) {
		return api.ErrAdviseCells
	}
	product := 1.0 // it holds every product of 256 cells
	for _, c := range cells {
		product *= float64(m.options(in, c))
	}
	if product == 0 {
		return api.ErrAdviseCells
	}
	if product > 4096 {
		return api.ErrAdviseMany
	}
	place, _ := m.graph.Place(int(target))
	if place.Kind != api.PlaceLine || m.pack.Lines[place.Index].Type != api.Cents {
		return api.ErrAdviseTarget
	}
	return api.OK
}

// kindOf: the kind of a line's cell.
func (m *model) kindOf(cell uint32) int {
	place, _ := m.graph.Place(int(cell))
	return m.pack.Lines[place.Index].Type
}

// ways: P16.2: the picks of the way of a number are its digits, the last cell's the lowest.
func (m *model) ways(in *trie.Map, cells []uint32, target uint32) []way {
	many := 1
	for _, c := range cells {
		many *= m.options(in, c)
	}
	var l []way
	for n := range many {
		picks := make([]api.Value, len(cells))
		with := in
		for i := len(cells) - 1; i >= 0; i-- {
			base := m.options(in, cells[i])
			picks[i] = val(m.kindOf(cells[i]), int64(n%base))
			with = with.Put(cells[i], picks[i])
			n /= base
		}
		worth, _ := m.eval.One(with, target)
		l = append(l, way{picks, worth})
	}
	return l
}

// best: P16.3.
func best(l []way, most bool) api.Advice {
	may := slices.DeleteFunc(slices.Clone(l), func(w way) bool { return w.worth.Kind != api.Cents })
	if len(may) == 0 {
		return none(len(l))
	}
	slices.SortStableFunc(may, func(a, b way) int {
		if most {
			a, b = b, a
		}
		return cmp.Compare(a.worth.Num, b.worth.Num)
	})
	return found(len(l), may[0].worth, may[0].picks...)
}

// tally counts what came about, so that chance leaves nothing out.
type tally map[string]int

func (c tally) atLeast(t *testing.T, n int, what ...string) {
	t.Helper()
	for _, x := range what {
		if c[x] < n {
			t.Errorf("%s: %d times", x, c[x])
		}
	}
}
