package merge_test

import (
	"maps"
	"math"
	"math/rand"
	"slices"
	"testing"

	"levy/api"
	"levy/types"
)

// Packs by chance that graph.New takes, and maps over them.

func pick[T any](r *rand.Rand, l ...T) T { return l[r.Intn(len(l))] }

// madePack: a pack of at most so many lines; what its computed lines say is of no weight here.
func madePack(r *rand.Rand, lines int) api.Pack {
	p := api.Pack{Name: "made", Year: 2024, Options: []api.Options{{Name: "status", Names: []string{"single", "joint"}}}}
	for i := range r.Intn(api.MaxGroups + 1) {
		p.Groups = append(p.Groups, api.Group{Name: named("g", i), Rows: 1 + r.Intn(api.MaxRows)})
	}
	for i := range 1 + r.Intn(lines) {
		group := r.Intn(len(p.Groups)+1) - 1
		if r.Intn(4) == 0 {
			p.Lines = append(p.Lines, computed(named("l", i), group, of(api.OpCents, int64(i))))
			continue
		}
		l := input(named("l", i), api.Cents+r.Intn(5), group)
		if l.Type == api.Choice {
			l.Options = 0
		}
		p.Lines = append(p.Lines, l)
	}
	for i := range r.Intn(4) {
		p.Checks = append(p.Checks, check(named("c", i), r.Intn(len(p.Groups)+1)-1))
	}
	for types.Cells(p) > api.MaxCells {
		p.Lines = p.Lines[1:]
	}
	return p
}

// eachMade calls do with packs, and their models.
func eachMade(t *testing.T, seed int64, many, lines int, do func(r *rand.Rand, p api.Pack, m *model)) {
	t.Helper()
	r := rand.New(rand.NewSource(seed))
	for range many {
		p := madePack(r, lines)
		if do(r, p, modelOf(t, p)); t.Failed() {
			t.Fatalf("the pack: %+v", p)
		}
	}
}

// strangeKeys: keys that are no cells of most packs, or of none.
var strangeKeys = []uint32{0, 1, 17, 100, 254, 255, 256, 257, 511, 1 << 16, 1 << 20, 1<<31 - 1, 1 << 31, math.MaxUint32 - 1, math.MaxUint32}

// odd: any value, mostly one of few, so that sides meet; those that aren't valid too, Blank, Flag 0 and what is hardly Flag 1 among them.
func odd(r *rand.Rand) api.Value {
	return pick(r, yes, yes, yes, cent(1), cent(1), num(1), no, blank, val(api.Flag, 2), val(api.Blank, 1), val(api.Fault, api.Over), val(-1, 1), val(math.MaxInt, math.MinInt64))
}

// oddEdit changes some keys, cells or not, by any values. A key that is a flag's is set to Flag 1 more often than not.
func (m *model) oddEdit(r *rand.Rand, c cells, many int) cells {
	c = maps.Clone(c)
	for range many {
		key := uint32(r.Intn(m.graph.Cells()))
		if r.Intn(6) == 0 {
			key = pick(r, strangeKeys...)
		}
		place, _ := m.graph.Place(int(key))
		switch {
		case place.Kind == api.PlaceFlag && r.Intn(3) > 0:
			c[key] = yes
		case r.Intn(4) == 0:
			delete(c, key)
		default:
			c[key] = odd(r)
		}
	}
	return c
}

// oddMaps: a base, ours and theirs, that hold anything, and have much in common.
func (m *model) oddMaps(r *rand.Rand) (base, ours, theirs cells) {
	base = m.oddEdit(r, cells{}, pick(r, 0, 5, 60, 400))
	ours, theirs = m.oddEdit(r, base, pick(r, 0, 1, 3, 30)), m.oddEdit(r, base, pick(r, 0, 1, 3, 30))
	if r.Intn(3) == 0 {
		both := m.oddEdit(r, cells{}, pick(r, 1, 10))
		maps.Copy(ours, both)
		maps.Copy(theirs, both)
	}
	m.oddRow(r, base, ours, theirs)
	return base, ours, theirs
}

// oddRow sets a row's keys on all sides, its flag to Flag 1: so that they meet there more often than by chance.
func (m *model) oddRow(r *rand.Rand, sides ...cells) {
	if len(m.pack.Groups) == 0 {
		return
	}
	group := r.Intn(len(m.pack.Groups))
	row := r.Intn(m.pack.Groups[group].Rows)
	flag, _ := m.graph.Flag(group, row)
	for i, l := range m.pack.Lines {
		cell, ok := m.graph.Cell(i, row)
		for _, c := range sides {
			c[uint32(flag)] = yes
			if ok && l.Input && l.Group == group {
				c[uint32(cell)] = cent(int64(r.Intn(3)))
			}
		}
	}
}

// worth: a value that fits a line, mostly one of few.
func worth(r *rand.Rand, l api.Line) api.Value {
	switch l.Type {
	case api.Cents, api.Count:
		return val(l.Type, pick[int64](r, 0, 1, 1, -1, 2))
	case api.Day:
		return val(l.Type, pick[int64](r, 0, 1, api.MaxDay))
	}
	return val(l.Type, int64(r.Intn(2)))
}

// fitEdit changes some inputs as a person does: values set and cleared in used rows, rows added and dropped.
func (m *model) fitEdit(r *rand.Rand, c cells, many int) cells {
	c = maps.Clone(c)
	for range many {
		cell := uint32(r.Intn(m.graph.Cells()))
		place, _ := m.graph.Place(int(cell))
		_, _, inRow := m.rowOf(cell)
		switch {
		case place.Kind == api.PlaceFlag && m.used(cell, c) && r.Intn(2) == 0:
			for key := range m.within(cell, c) {
				delete(c, key)
			}
		case place.Kind == api.PlaceFlag:
			c[cell] = yes
		case !m.isLoose(cell) && !(inRow && m.used(cell, c)):
		case r.Intn(4) == 0:
			delete(c, cell)
		default:
			c[cell] = worth(r, m.pack.Lines[place.Index])
		}
	}
	return c
}

// fitMaps: a base, ours and theirs that fit the pack.
func (m *model) fitMaps(r *rand.Rand) (base, ours, theirs cells) {
	base = m.fitEdit(r, cells{}, pick(r, 0, 20, 100, 500))
	return base, m.fitEdit(r, base, pick(r, 0, 1, 3, 10, 60)), m.fitEdit(r, base, pick(r, 0, 1, 3, 10, 60))
}

// conflictsBy: any conflicts, the ids of their sides unlike, values beside what isn't there.
func conflictsBy(r *rand.Rand) []api.Conflict {
	change := func() api.Change {
		return api.Change{Id: pick(r, strangeKeys[:6]...), Had: r.Intn(2) == 0, Has: r.Intn(3) > 0, Was: odd(r), Now: odd(r)}
	}
	var l []api.Conflict
	for range r.Intn(12) {
		l = append(l, api.Conflict{Base: change(), Ours: change(), Theirs: change()})
	}
	return l
}

// swapped: conflicts with Ours and Theirs exchanged.
func swapped(l []api.Conflict) []api.Conflict {
	l = slices.Clone(l)
	for i, c := range l {
		l[i].Ours, l[i].Theirs = c.Theirs, c.Ours
	}
	return l
}
