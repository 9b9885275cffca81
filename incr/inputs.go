package incr

import (
	"iter"
	"slices"

	"levy/api"
	"levy/trie"
	"levy/types"
)

// outline copies what is asked of a pack behind New: what its lines are, and how many options they have.
func outline(p api.Pack) api.Pack {
	var q api.Pack
	for _, o := range p.Options {
		q.Options = append(q.Options, api.Options{Names: slices.Clone(o.Names)})
	}
	for _, l := range p.Lines {
		l.Clauses = nil
		q.Lines = append(q.Lines, l)
	}
	return q
}

func (m *Memo) has(cell uint32) bool {
	_, ok := m.graph.Place(int(cell))
	return ok
}

func (m *Memo) isFlag(cell uint32) bool {
	place, ok := m.graph.Place(int(cell))
	return ok && place.Kind == api.PlaceFlag
}

func (m *Memo) isInput(cell uint32) bool {
	place, ok := m.graph.Place(int(cell))
	return ok && (place.Kind == api.PlaceFlag || place.Kind == api.PlaceLine && m.pack.Lines[place.Index].Input)
}

// refusal tells why a cell can't be set to a value.
func (m *Memo) refusal(cell uint32, v api.Value) api.Errno {
	switch {
	case !m.has(cell):
		return api.ErrIncrCell
	case !m.isInput(cell) || !m.mayHold(cell, v):
		return api.ErrIncrInput
	}
	return api.OK
}

// mayHold tells whether an input cell may be set to a value.
func (m *Memo) mayHold(cell uint32, v api.Value) bool {
	if m.isFlag(cell) {
		return v == api.Value{Kind: api.Flag, Num: 1} || m.meansUnset(cell, v)
	}
	place, _ := m.graph.Place(int(cell))
	return types.Fits(m.pack, place.Index, v)
}

// unset tells what an input cell holds where nothing was set.
func (m *Memo) unset(cell uint32) api.Value {
	if m.isFlag(cell) {
		return api.Value{Kind: api.Flag}
	}
	return api.Value{}
}

// meansUnset tells whether an input cell that is set to a value isn't set then.
func (m *Memo) meansUnset(cell uint32, v api.Value) bool {
	return v == api.Value{} || v == m.unset(cell)
}

// input tells what an input cell holds.
func (m *Memo) input(cell uint32) api.Value {
	if v, ok := m.inputs.Get(cell); ok {
		return v
	}
	return m.unset(cell)
}

// heeding gives what l gives. An iterator that goes on when it is left would make the loop over it panic: what it gives then is passed over.
func heeding(l iter.Seq2[uint32, api.Value]) iter.Seq2[uint32, api.Value] {
	return func(yield func(uint32, api.Value) bool) {
		if l == nil {
			return
		}
		left := false
		l(func(cell uint32, v api.Value) bool {
			left = left || !yield(cell, v)
			return !left
		})
	}
}

// take makes the inputs others, and marks what may hang on those that changed: how many did.
func (m *Memo) take(next *trie.Map) int {
	var changed []int
	for c := range trie.Diff(m.inputs, next) {
		changed = append(changed, int(c.Id))
	}
	m.inputs = next
	for cell := range m.graph.Hit(changed...) {
		if e, ok := m.known[uint32(cell)]; ok { // what was never evaluated is dirty as it is
			e.clean = false
			m.known[uint32(cell)] = e
		}
	}
	return len(changed)
}
