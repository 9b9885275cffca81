package incr

import "levy/api"

// upToDate brings a cell up to date, and tells what it holds then. made counts the evaluations.
func (m *Memo) upToDate(cell uint32, made *int) api.Value {
	if m.isInput(cell) {
		return m.input(cell)
	}
	e, ok := m.known[cell]
	if e.clean {
		return e.last.Val
	}
	if !ok || !m.asSeen(e.last.Reads, made) {
		e.last = m.eval.With(cell, func(read uint32) api.Value { return m.upToDate(read, made) })
		e.times++
		*made++
	}
	e.clean = true
	m.known[cell] = e
	return e.last.Val
}

// asSeen tells whether all cells of some reads hold what was seen there. It ends at the first that doesn't: whether those behind it are still needed isn't known then.
func (m *Memo) asSeen(reads []api.Read, made *int) bool {
	for _, r := range reads {
		if m.upToDate(r.Cell, made) != r.Seen {
			return false
		}
	}
	return true
}

// dirty tells the computed cells that aren't clean, rising.
func (m *Memo) dirty() []uint32 {
	var l []uint32
	for cell := range uint32(m.graph.Cells()) {
		if !m.isInput(cell) && !m.known[cell].clean {
			l = append(l, cell)
		}
	}
	return l
}
