package trace_test

import (
	"fmt"
	"math/rand"
	"slices"
	"testing"

	"levy/api"
	"levy/days"
	"levy/eval"
	"levy/graph"
	"levy/money"
	"levy/trie"
)

// model: the chapter's words, over a pack. Nothing is remembered: whatever is asked for is reckoned from scratch.
type model struct {
	pack  api.Pack
	graph *graph.Graph
	eval  *eval.Eval
	cells []int // the input cells
}

func modelOf(t *testing.T, p api.Pack) *model {
	t.Helper()
	v, e := eval.New(p)
	if e != api.OK {
		t.Fatalf("eval.New(%+v): error %d", p, e)
	}
	m := &model{pack: p, graph: madeGraph(t, p), eval: v}
	for cell := range m.graph.Cells() {
		if !m.isComputed(uint32(cell)) {
			m.cells = append(m.cells, cell)
		}
	}
	return m
}

func (m *model) isComputed(cell uint32) bool {
	place, ok := m.graph.Place(int(cell))
	return ok && (place.Kind == api.PlaceCheck || place.Kind == api.PlaceLine && !m.pack.Lines[place.Index].Input)
}

func (m *model) isFlag(cell int) bool {
	place, ok := m.graph.Place(cell)
	return ok && place.Kind == api.PlaceFlag
}

// computed: all computed cells.
func (m *model) computed() []uint32 {
	var l []uint32
	for cell := range uint32(m.graph.Cells()) {
		if m.isComputed(cell) {
			l = append(l, cell)
		}
	}
	return l
}

// some: at most so many of the computed cells, by chance.
func (m *model) some(r *rand.Rand, n int) []uint32 {
	l := m.computed()
	r.Shuffle(len(l), func(i, j int) { l[i], l[j] = l[j], l[i] })
	return l[:min(n, len(l))]
}

// input: what an input cell holds (P9.4).
func (m *model) input(in *trie.Map, cell uint32) api.Value {
	v, ok := in.Get(cell)
	if !ok && m.isFlag(int(cell)) {
		return no
	}
	return v
}

// holds: what all cells hold, each reckoned once.
func (m *model) holds(in *trie.Map) []api.Value {
	l := make([]api.Value, m.graph.Cells())
	for _, cell := range m.graph.Order() {
		if m.isComputed(uint32(cell)) {
			l[cell] = m.eval.With(uint32(cell), func(c uint32) api.Value { return l[c] }).Val
		} else {
			l[cell] = m.input(in, uint32(cell))
		}
	}
	return l
}

func has(l []api.Node, cell uint32) bool {
	return slices.ContainsFunc(l, func(n api.Node) bool { return n.Cell == cell })
}

// trace: P13.1.
func (m *model) trace(in *trie.Map, cell uint32) []api.Node {
	held := m.holds(in)
	var left []api.Node
	var walk func(cell uint32)
	walk = func(cell uint32) {
		n := m.eval.With(cell, func(c uint32) api.Value { return held[c] })
		for _, r := range n.Reads {
			if m.isComputed(r.Cell) && !has(left, r.Cell) {
				walk(r.Cell)
			}
		}
		left = append(left, n)
	}
	walk(cell)
	return left
}

// check: P13.3, word for word.
func (m *model) check(in *trie.Map, l []api.Node) (int, api.Errno) {
	if m.eval.Fits(in) != api.OK {
		return 0, api.ErrTraceInput
	}
	if len(l) == 0 {
		return 0, api.ErrTraceCell
	}
	for i, n := range l {
		if e := m.step(in, l[:i], n); e != api.OK {
			return i, e
		}
	}
	var left []uint32
	m.leave(l, l[len(l)-1], &left)
	for i, n := range l {
		if i >= len(left) || left[i] != n.Cell {
			return i, api.ErrTraceOrder
		}
	}
	return 0, api.OK
}

// step: what P13.3's third point says of a node.
func (m *model) step(in *trie.Map, ahead []api.Node, n api.Node) api.Errno {
	if !m.isComputed(n.Cell) {
		return api.ErrTraceCell
	}
	if has(ahead, n.Cell) {
		return api.ErrTraceOrder
	}
	for _, r := range n.Reads {
		if m.isComputed(r.Cell) && !has(ahead, r.Cell) {
			return api.ErrTraceOrder
		}
	}
	want := m.eval.With(n.Cell, func(c uint32) api.Value {
		if !m.isComputed(c) {
			return m.input(in, c)
		}
		for _, a := range ahead {
			if a.Cell == c {
				return a.Val
			}
		}
		return blank
	})
	if !sameNode(n, want) {
		return api.ErrTraceNode
	}
	return api.OK
}

// leave: the walk of a node, by what the nodes themselves say.
func (m *model) leave(l []api.Node, n api.Node, left *[]uint32) {
	for _, r := range n.Reads {
		if m.isComputed(r.Cell) && !slices.Contains(*left, r.Cell) {
			m.leave(l, l[slices.IndexFunc(l, func(x api.Node) bool { return x.Cell == r.Cell })], left)
		}
	}
	*left = append(*left, n.Cell)
}

// print: P13.4.
func (m *model) print(l []api.Node) string {
	s := ""
	for _, n := range l {
		s += m.name(n.Cell) + " = " + m.text(n.Cell, n.Val)
		if n.Clause == 0 {
			s += " by default"
		}
		if n.Clause > 0 {
			s += fmt.Sprint(" by clause ", n.Clause)
		}
		for _, r := range n.Reads {
			s += "; " + m.name(r.Cell) + " = " + m.text(r.Cell, r.Seen)
		}
		s += "\n"
	}
	return s
}

func (m *model) name(cell uint32) string {
	place, ok := m.graph.Place(int(cell))
	if !ok {
		return fmt.Sprint("cell ", cell)
	}
	name, group := "", 0
	switch place.Kind {
	case api.PlaceLine:
		name, group = m.pack.Lines[place.Index].Name, m.pack.Lines[place.Index].Group
	case api.PlaceCheck:
		name, group = "check "+m.pack.Checks[place.Index].Name, m.pack.Checks[place.Index].Group
	case api.PlaceFlag:
		name = "used " + m.pack.Groups[place.Index].Name
	}
	if group >= 0 {
		name += fmt.Sprint(".", place.Row+1)
	}
	return name
}

func (m *model) text(cell uint32, v api.Value) string {
	if !money.Valid(v) {
		return "?"
	}
	switch v.Kind {
	case api.Cents:
		sign, n := "", v.Num
		if n < 0 {
			sign, n = "-", -n
		}
		return fmt.Sprintf("%s%d.%02d", sign, n/100, n%100)
	case api.Count:
		return fmt.Sprint(v.Num)
	case api.Flag:
		return []string{"no", "yes"}[v.Num]
	case api.Day:
		d, _ := days.Date(int(v.Num))
		return fmt.Sprintf("%04d-%02d-%02d", d.Year, d.Month, d.Day)
	case api.Choice:
		return m.option(cell, int(v.Num))
	case api.Fault:
		return []string{"over", "zero", "needed", "range", "wrong"}[v.Num-1]
	}
	return "-"
}

func (m *model) option(cell uint32, n int) string {
	place, ok := m.graph.Place(int(cell))
	if ok && place.Kind == api.PlaceLine {
		if l := m.pack.Lines[place.Index]; l.Type == api.Choice && n < len(m.pack.Options[l.Options].Names) {
			return m.pack.Options[l.Options].Names[n]
		}
	}
	return fmt.Sprint("option ", n)
}
