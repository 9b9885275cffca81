package audit_test

import (
	"testing"

	"levy/api"
	"levy/eval"
	"levy/graph"
)

// model: the chapter's words, over a pack.
type model struct {
	pack  api.Pack
	graph *graph.Graph
	eval  *eval.Eval
	cells []int // the input cells
}

func modelOf(t *testing.T, p api.Pack) *model {
	t.Helper()
	v, e := eval.New(p)
	if e != api.OK {
		t.Fatalf("eval.New(%+v): error %d", p, e)
	}
	m := &model{pack: p, graph: madeGraph(t, p), eval: v}
	for cell := range m.graph.Cells() {
		place, _ := m.graph.Place(cell)
		if place.Kind == api.PlaceFlag || place.Kind == api.PlaceLine && p.Lines[place.Index].Input {
			m.cells = append(m.cells, cell)
		}
	}
	return m
}

func (m *model) isFlag(cell int) bool {
	place, ok := m.graph.Place(cell)
	return ok && place.Kind == api.PlaceFlag
}

// asked: whether a question of a rule, hard or not, is one of a cell (P14.4).
func (m *model) asked(rule int, hard bool, place api.Place) bool {
	switch {
	case place.Kind == api.PlaceCheck && (rule == api.RuleCheck || rule == api.RuleUnsure):
		return m.pack.Checks[place.Index].Hard == hard
	case place.Kind == api.PlaceLine && rule == api.RuleMissing:
		return hard && m.pack.Lines[place.Index].Must
	case place.Kind == api.PlaceLine && rule == api.RuleFault:
		return hard
	}
	return false
}

// found: P14.3, of a cell that counts.
func found(rule int, v api.Value) bool {
	switch rule {
	case api.RuleCheck:
		return v.Kind == api.Flag && v.Num == 1
	case api.RuleUnsure:
		return v.Kind != api.Flag || v.Num < 0 || v.Num > 1
	case api.RuleMissing:
		return v.Kind == 0
	}
	return v.Kind == 6
}

func (m *model) group(place api.Place) int {
	if place.Kind == api.PlaceLine {
		return m.pack.Lines[place.Index].Group
	}
	return m.pack.Checks[place.Index].Group
}

func (m *model) text(place api.Place) string {
	if place.Kind == api.PlaceLine {
		return m.pack.Lines[place.Index].Name
	}
	return m.pack.Checks[place.Index].Text
}

// step: what is found, and how many cells were read till then.
type step struct {
	found api.Finding
	reads int
}

// run: all findings in their order, and all cells that are read; how many of them by the hard questions.
func (m *model) run(vals []api.Value) (steps []step, reads []uint32, byHard int) {
	seen := map[int]struct{}{}
	look := func(cell int) api.Value {
		if _, ok := seen[cell]; !ok {
			seen[cell] = struct{}{}
			reads = append(reads, uint32(cell))
		}
		return vals[cell]
	}
	for kind := range 6 {
		rule, hard := kind%4+1, kind < 4
		if kind == 4 {
			byHard = len(reads)
		}
		for cell := range m.graph.Cells() {
			place, _ := m.graph.Place(cell)
			if !m.asked(rule, hard, place) {
				continue
			}
			if flag, ok := m.graph.Flag(m.group(place), place.Row); ok && look(flag) != yes {
				continue
			}
			if v := look(cell); found(rule, v) {
				steps = append(steps, step{api.Finding{Rule: rule, Hard: hard, Place: place, Val: v, Text: m.text(place)}, len(reads)})
			}
		}
	}
	return steps, reads, byHard
}
