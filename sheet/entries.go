package sheet

import (
	"iter"

	"levy/api"
)

// The kinds of entries.
const (
	groupEntry = iota + 1
	rowEntry
	valueEntry
)

// entry: what stands at a place of the pages.
type entry struct {
	kind  int
	group int       // of a group's or a row's entry
	turn  int       // of a row's: the row's number among those that are used
	place api.Place // of a value's
}

// usage: which rows of the groups are used.
type usage struct {
	many [api.MaxGroups]int
	rows [api.MaxGroups][]int // rising
}

// entries gives the entries in their order. How many rows of a group are used is looked up behind the group's entry, and which row it is behind the row's: so whoever reads pages can fill it in from these.
func (y *layout) entries(u *usage) iter.Seq[entry] {
	return func(yield func(entry) bool) {
		if y.giveLines(-1, 0, yield) && y.giveGroups(u, yield) && y.giveChecks(yield) {
			y.giveRowChecks(u, yield)
		}
	}
}

// giveLines gives the lines of a group at a row (group -1: of no group), and tells whether to go on.
func (y *layout) giveLines(group, row int, yield func(entry) bool) bool {
	for i, l := range y.pack.Lines {
		if l.Group == group && !yield(valueAt(api.PlaceLine, i, row)) {
			return false
		}
	}
	return true
}

func (y *layout) giveGroups(u *usage, yield func(entry) bool) bool {
	for group := range y.pack.Groups {
		if !yield(entry{kind: groupEntry, group: group}) {
			return false
		}
		for turn := range u.many[group] {
			if !yield(entry{kind: rowEntry, group: group, turn: turn}) || !y.giveLines(group, u.rows[group][turn], yield) {
				return false
			}
		}
	}
	return true
}

func (y *layout) giveChecks(yield func(entry) bool) bool {
	for i, c := range y.pack.Checks {
		if c.Group < 0 && !yield(valueAt(api.PlaceCheck, i, 0)) {
			return false
		}
	}
	return true
}

func (y *layout) giveRowChecks(u *usage, yield func(entry) bool) {
	for i, c := range y.pack.Checks {
		if c.Group < 0 {
			continue
		}
		for _, row := range u.rows[c.Group] {
			if !yield(valueAt(api.PlaceCheck, i, row)) {
				return
			}
		}
	}
}

func valueAt(kind, index, row int) entry {
	return entry{kind: valueEntry, place: api.Place{Kind: kind, Index: index, Row: row}}
}
