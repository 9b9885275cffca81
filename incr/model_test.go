package incr_test

import (
	"maps"
	"slices"
	"testing"

	"levy/api"
	"levy/eval"
	"levy/graph"
	"levy/incr"
	"levy/types"
)

// model: the chapter's words. What cells hold it reckons from scratch each time; from what was seen and what is held now it tells which cells a question evaluates.
type model struct {
	pack   api.Pack
	graph  *graph.Graph
	eval   *eval.Eval
	cells  []int             // the input cells
	inputs map[int]api.Value // what they hold
	clean  map[int]bool
	last   map[int]api.Node
	evals  map[int]int
	cut    int // dirty cells that became clean without an evaluation
}

func modelOf(t *testing.T, p api.Pack) *model {
	t.Helper()
	v, e := eval.New(p)
	if e != api.OK {
		t.Fatalf("eval.New(%+v): error %d", p, e)
	}
	m := &model{pack: p, graph: madeGraph(t, p), eval: v, clean: map[int]bool{}, last: map[int]api.Node{}, evals: map[int]int{}}
	m.cells = inputCells(p, m.graph)
	m.inputs = m.nothing()
	return m
}

func (m *model) clone() *model {
	k := *m
	k.inputs, k.clean, k.last, k.evals = maps.Clone(m.inputs), maps.Clone(m.clean), maps.Clone(m.last), maps.Clone(m.evals)
	return &k
}

// inputCells: P9.2.
func inputCells(p api.Pack, g *graph.Graph) []int {
	var l []int
	for cell := range g.Cells() {
		place, _ := g.Place(cell)
		if place.Kind == api.PlaceFlag || place.Kind == api.PlaceLine && p.Lines[place.Index].Input {
			l = append(l, cell)
		}
	}
	return l
}

func (m *model) isInput(cell int) bool {
	_, ok := slices.BinarySearch(m.cells, cell)
	return ok
}

func (m *model) isFlag(cell int) bool {
	place, ok := m.graph.Place(cell)
	return ok && place.Kind == api.PlaceFlag
}

// nothing: what input cells hold where nothing is set.
func (m *model) nothing() map[int]api.Value {
	in := map[int]api.Value{}
	for _, cell := range m.cells {
		in[cell] = blank
		if m.isFlag(cell) {
			in[cell] = no
		}
	}
	return in
}

// refusal: P10.2's errors.
func (m *model) refusal(cell uint32, v api.Value) api.Errno {
	place, ok := m.graph.Place(int(cell))
	switch {
	case !ok:
		return api.ErrIncrCell
	case !m.isInput(int(cell)):
		return api.ErrIncrInput
	case m.isFlag(int(cell)) && v != no && v != yes && v != blank:
		return api.ErrIncrInput
	case !m.isFlag(int(cell)) && !types.Fits(m.pack, place.Index, v):
		return api.ErrIncrInput
	}
	return api.OK
}

// set: P10.2.
func (m *model) set(cell uint32, v api.Value) (bool, api.Errno) {
	if e := m.refusal(cell, v); e != api.OK {
		return false, e
	}
	if m.isFlag(int(cell)) && v == blank {
		v = no
	}
	in := maps.Clone(m.inputs)
	in[int(cell)] = v
	return m.become(in) == 1, api.OK
}

// load: P10.3, with how many are taken.
func (m *model) load(l []api.Read) (n, taken int, e api.Errno) {
	in := m.nothing()
	for i, x := range l {
		e := m.refusal(x.Cell, x.Seen)
		if e == api.OK && (i > 0 && x.Cell <= l[i-1].Cell || x.Seen == blank || m.isFlag(int(x.Cell)) && x.Seen == no) {
			e = api.ErrIncrInput
		}
		if e != api.OK {
			return 0, i + 1, e
		}
		in[int(x.Cell)] = x.Seen
	}
	return m.become(in), len(l), api.OK
}

// become: other inputs, and what that makes dirty, a cell's by a Hit of its own.
func (m *model) become(in map[int]api.Value) int {
	n := 0
	for cell, v := range in {
		if m.inputs[cell] == v {
			continue
		}
		n++
		for user := range m.graph.Hit(cell) {
			delete(m.clean, user)
		}
	}
	m.inputs = in
	return n
}

// holds: what all cells hold: P9.6 from scratch, each cell once.
func (m *model) holds() []api.Value {
	l := make([]api.Value, m.graph.Cells())
	for _, cell := range m.graph.Order() {
		v, ok := m.inputs[cell]
		if !ok {
			v = m.eval.With(uint32(cell), func(c uint32) api.Value { return l[c] }).Val
		}
		l[cell] = v
	}
	return l
}

// get: P10.4, of a cell that there is.
func (m *model) get(cell int) (api.Value, int) {
	held := m.holds()
	n := m.update(cell, held)
	return held[cell], n
}

// update: P10.5: how many evaluations it makes. Nothing that was remembered tells a value here.
func (m *model) update(cell int, held []api.Value) int {
	if m.isInput(cell) || m.clean[cell] {
		return 0
	}
	n := 0
	node, had := m.last[cell]
	same := had
	for _, r := range node.Reads {
		n += m.update(int(r.Cell), held)
		if held[r.Cell] != r.Seen {
			same = false
			break
		}
	}
	m.clean[cell] = true
	if same {
		m.cut++
		return n
	}
	node = m.eval.With(uint32(cell), func(c uint32) api.Value { return held[c] })
	for _, r := range node.Reads {
		n += m.update(int(r.Cell), held)
	}
	m.last[cell] = node
	m.evals[cell]++
	return n + 1
}

func (m *model) dirty() []uint32 {
	var l []uint32
	for cell := range m.graph.Cells() {
		if !m.isInput(cell) && !m.clean[cell] {
			l = append(l, uint32(cell))
		}
	}
	return l
}

// asModel asks whether a memo answers what the model does, of all cells and some numbers beside them.
func asModel(t *testing.T, what string, got *incr.Memo, m *model) {
	t.Helper()
	if l := slices.Collect(got.Dirty()); !slices.Equal(l, m.dirty()) {
		t.Errorf("%s: Dirty: %v, want %v", what, l, m.dirty())
	}
	for cell := range m.graph.Cells() + 2 {
		node, ok := got.Last(uint32(cell))
		want, has := m.last[cell]
		if ok != has || !sameNode(node, want) {
			t.Errorf("%s: Last(%d): %+v, %t, want %+v, %t", what, cell, node, ok, want, has)
		}
		if n := got.Evals(uint32(cell)); n != m.evals[cell] {
			t.Errorf("%s: Evals(%d): %d, want %d", what, cell, n, m.evals[cell])
		}
	}
	for cell, v := range m.inputs {
		get(t, got, uint32(cell), v, 0)
	}
}

// asked asks a memo for a cell, and whether it answers what the model does.
func asked(t *testing.T, what string, got *incr.Memo, m *model, cell int) {
	t.Helper()
	v, n := m.get(cell)
	if x, k, e := got.Get(uint32(cell)); x != v || k != n || e != api.OK {
		t.Errorf("%s: Get(%d): %v, %d, error %d, want %v, %d", what, cell, x, k, e, v, n)
	}
}

// told: what a model's inputs are as a list, rising, those that aren't set left out.
func (m *model) told() []api.Read {
	var l []api.Read
	unset := m.nothing()
	for _, cell := range m.cells {
		if v := m.inputs[cell]; v != unset[cell] {
			l = append(l, at(uint32(cell), v))
		}
	}
	return l
}
