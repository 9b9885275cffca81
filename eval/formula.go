package eval

import (
	"cmp"
	"slices"

	"levy/api"
)

// formula: a computed cell, made ready.
type formula struct {
	inRow      bool
	flag       uint32   // the flag of its row, if it has one
	exceptions []clause // from the highest priority down
	otherwise  clause   // what decides if no guard is true: a line's default, a check's When
}

// clause: a clause of a line, made ready. The number is the one that a node tells: -1, where there is no clause.
type clause struct {
	number, priority int
	guard, body      term
}

// formulas makes all cells of a pack ready, by their numbers.
func (m maker) formulas(p api.Pack) []*formula {
	var l []*formula
	for cell := range m.graph.Cells() {
		place, _ := m.graph.Place(cell)
		m.row = place.Row
		l = append(l, m.computed(p, place))
	}
	return l
}

// computed makes a cell ready; nil: it is an input cell.
func (m maker) computed(p api.Pack, at api.Place) *formula {
	switch {
	case at.Kind == api.PlaceCheck:
		return m.check(p.Checks[at.Index])
	case at.Kind == api.PlaceLine && !p.Lines[at.Index].Input:
		return m.line(p.Lines[at.Index])
	}
	return nil
}

func (m maker) check(c api.Check) *formula {
	f := m.inGroup(c.Group)
	f.otherwise = clause{number: -1, body: m.ready(c.When)}
	return f
}

func (m maker) line(l api.Line) *formula {
	f := m.inGroup(l.Group)
	for i, c := range l.Clauses {
		next := clause{number: i, priority: c.Priority, body: m.ready(c.Body)}
		if !c.Guarded {
			f.otherwise = next
			continue
		}
		next.guard = m.ready(c.Guard)
		f.exceptions = append(f.exceptions, next)
	}
	slices.SortFunc(f.exceptions, func(a, b clause) int { return cmp.Compare(b.priority, a.priority) })
	return f
}

// inGroup makes a formula that knows its row's flag, and nothing else yet.
func (m maker) inGroup(group int) *formula {
	cell, ok := m.graph.Flag(group, m.row)
	return &formula{inRow: ok, flag: uint32(cell)}
}

// reckon tells what the cell is worth, the clause that decided and what its guards were. Whose cell it is, and what it read, the caller knows.
func (f *formula) reckon(read reader) api.Node {
	n := api.Node{Clause: -1}
	if f.inRow {
		used := truth(read(f.flag))
		if isFault(used) {
			n.Val = used
		}
		if used != flag(true) {
			return n
		}
	}
	decides := f.otherwise
	for _, c := range f.exceptions {
		guard := c.guard.worth(read)
		n.Guards = append(n.Guards, guard)
		holds := truth(guard)
		if isFault(holds) {
			n.Val = holds
			return n
		}
		if holds == flag(true) {
			decides = c
			break
		}
	}
	n.Clause, n.Val = decides.number, decides.body.worth(read)
	return n
}
