package audit_test

import (
	"fmt"
	"math/rand"
	"slices"
	"testing"

	"levy/api"
	"levy/audit"
	"levy/incr"
)

// All promises by packs and values that chance makes, held against the model and against each other.

// tally counts what came about, so that chance leaves nothing out.
type tally map[string]int

func (c tally) atLeast(t *testing.T, n int, what ...string) {
	t.Helper()
	for _, x := range what {
		if c[x] < n {
			t.Errorf("%s: %d times", x, c[x])
		}
	}
}

// chance: values of all cells, rows used more often than not, of which little or much is found.
func (m *model) chance(r *rand.Rand) []api.Value {
	l := make([]api.Value, m.graph.Cells())
	wild := pick(r, 0, 1, 5, 30, 100)
	for cell := range l {
		place, _ := m.graph.Place(cell)
		switch {
		case r.Intn(100) < wild:
			l[cell] = pick(r, odd(r), yes, no, blank, over)
		case place.Kind == api.PlaceFlag:
			l[cell] = pick(r, yes, yes, no)
		case place.Kind == api.PlaceCheck:
			l[cell] = no
		default:
			l[cell] = worth(r, pick(r, kinds...))
		}
	}
	return l
}

// asModel asks whether Run, First and May tell what the model tells, and read what it reads, up to where they end (P14.9).
func asModel(t *testing.T, a *audit.Auditor, m *model, vals []api.Value, counts tally) {
	t.Helper()
	steps, cells, byHard := m.run(vals)
	var all []api.Finding
	for _, s := range steps {
		all = append(all, s.found)
		counts[fmt.Sprint("rule ", s.found.Rule, " ", s.found.Hard)]++
	}
	first, byFirst, mayEnd, may := api.Finding{}, len(cells), byHard, true
	if len(steps) > 0 {
		first, byFirst = all[0], steps[0].reads
	}
	if len(steps) > 0 && first.Hard { // hard ones come first
		may, mayEnd = false, byFirst
	}
	r := reads(vals...)
	if l := a.Run(r.read); !slices.Equal(l, all) {
		t.Errorf("Run: %+v, want %+v", l, all)
	}
	r.wants(t, "Run", cells...)
	if f, ok := a.First(r.read); f != first || ok != (len(all) > 0) {
		t.Errorf("First: %+v, %t, want %+v", f, ok, first)
	}
	r.wants(t, "First", cells[:byFirst]...)
	if got := a.May(r.read); got != may {
		t.Errorf("May: %t", got)
	}
	r.wants(t, "May", cells[:mayEnd]...)
	counts[fmt.Sprint("may ", may, ", first ", len(all) > 0)]++
}

func TestP14_9AsTheModel(t *testing.T) {
	counts := tally{}
	eachMade(t, 149, 300, 24, func(r *rand.Rand, p api.Pack, m *model) {
		a := made(t, p)
		for range 20 {
			asModel(t, a, m, m.chance(r), counts)
		}
	})
	counts.atLeast(t, 100, "may true, first true", "may true, first false", "may false, first true")
	counts.atLeast(t, 100, "rule 1 true", "rule 2 true", "rule 3 true", "rule 4 true", "rule 1 false", "rule 2 false")
}

// filed: P14.10's words, over what all cells hold.
func (m *model) filed(vals []api.Value) bool {
	for cell, v := range vals {
		place, _ := m.graph.Place(cell)
		if place.Kind == api.PlaceFlag {
			continue
		}
		if row, ok := m.graph.Flag(m.group(place), place.Row); ok && vals[row] != yes {
			continue
		}
		switch {
		case place.Kind == api.PlaceCheck && m.pack.Checks[place.Index].Hard && v != no:
			return false
		case place.Kind == api.PlaceLine && v.Kind == api.Fault:
			return false
		case place.Kind == api.PlaceLine && v.Kind == api.Blank && m.pack.Lines[place.Index].Must:
			return false
		}
	}
	return true
}

// calmer: a pack of which little is found: fewer lines that must be there, fewer hard checks.
func calmer(r *rand.Rand, p api.Pack) api.Pack {
	p.Lines, p.Checks = slices.Clone(p.Lines), slices.Clone(p.Checks)
	for i := range p.Lines {
		p.Lines[i].Must = p.Lines[i].Must && r.Intn(3) == 0
	}
	for i := range p.Checks {
		p.Checks[i].Hard = p.Checks[i].Hard && r.Intn(6) == 0
	}
	return p
}

// fitting: a list of inputs without those of rows that aren't used.
func (m *model) fitting(l []api.Read) []api.Read {
	return slices.DeleteFunc(slices.Clone(l), func(x api.Read) bool {
		place, _ := m.graph.Place(int(x.Cell))
		if place.Kind != api.PlaceLine {
			return false
		}
		row, ok := m.graph.Flag(m.group(place), place.Row)
		return ok && !slices.Contains(l, at(uint32(row), yes))
	})
}

// By the values of eval and by those of a memo the same is found, and a return may be filed just if nothing keeps it.
func TestP14_10ByEvalAndByMemo(t *testing.T) {
	counts := tally{}
	eachMade(t, 1410, 400, 10, func(r *rand.Rand, p api.Pack, _ *model) {
		p = calmer(r, p)
		m, a := modelOf(t, p), made(t, p)
		memo, _ := incr.New(p)
		for range 3 {
			in := inputs(m.fitting(someInputs(r, m))...)
			if _, e := memo.Load(in.All()); e != api.OK {
				t.Fatalf("Load: error %d", e)
			}
			held := m.eval.All(in)
			byMemo := func(cell uint32) api.Value {
				v, _, _ := memo.Get(cell)
				return v
			}
			may := m.filed(held)
			if got, told := a.May(reads(held...).read), a.May(byMemo); got != may || told != may {
				t.Errorf("May: by eval %t, by the memo %t, want %t", got, told, may)
			}
			steps, _, _ := m.run(held)
			if l := a.Run(byMemo); !slices.EqualFunc(l, steps, func(f api.Finding, s step) bool { return f == s.found }) {
				t.Errorf("Run by the memo: %+v, want %+v", l, steps)
			}
			asModel(t, a, m, held, counts)
		}
	})
	counts.atLeast(t, 50, "may true, first true", "may true, first false", "may false, first true")
	counts.atLeast(t, 50, "rule 1 true", "rule 2 true", "rule 3 true", "rule 4 true", "rule 1 false", "rule 2 false")
}

// A memo's values may stand in rows that aren't used: they don't count.
func TestP14_10RowsThatAreNotUsed(t *testing.T) {
	memo, _ := incr.New(example())
	memo.Set(0, cent(100))
	memo.Set(1, num(5))
	read := func(cell uint32) api.Value {
		v, _, _ := memo.Get(cell)
		return v
	}
	a := made(t, example())
	if l := a.Run(read); len(l) != 0 || !a.May(read) {
		t.Errorf("no row is used: %+v", l)
	}
	memo.Set(7, yes)
	if f, ok := a.First(read); f != ofLine(api.RuleMissing, 1, 1, blank, "age") || !ok {
		t.Errorf("row 2 is used, without age: %+v, %t", f, ok)
	}
	memo.Set(2, num(3))
	memo.Set(6, yes)
	if l := a.Run(read); len(l) != 0 {
		t.Errorf("all is told: %+v", l)
	}
}

// On demand: what First doesn't come to isn't evaluated.
func TestP14_10OnDemand(t *testing.T) {
	counts := tally{}
	eachMade(t, 14101, 150, 16, func(r *rand.Rand, p api.Pack, m *model) {
		a := made(t, p)
		memo, _ := incr.New(p)
		memo.Load(inputs(someInputs(r, m)...).All())
		var asked []int
		a.First(func(cell uint32) api.Value {
			asked = append(asked, int(cell))
			v, _, _ := memo.Get(cell)
			return v
		})
		need := slices.Collect(m.graph.Need(asked...))
		for cell := range m.graph.Cells() {
			n := memo.Evals(uint32(cell))
			if n > 1 || n > 0 && !slices.Contains(need, cell) {
				t.Errorf("cell %d is evaluated %d times; asked: %v", cell, n, asked)
			}
			counts[fmt.Sprint("evaluated ", n)]++
		}
	})
	counts.atLeast(t, 100, "evaluated 0", "evaluated 1")
}
