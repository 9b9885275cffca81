package incr_test

import (
	"math"
	"math/rand"
	"slices"
	"testing"

	"levy/api"
	"levy/eval"
	"levy/incr"
)

func TestP10_1Errors(t *testing.T) {
	for _, b := range []struct {
		what  string
		does  func(p *api.Pack)
		errno api.Errno
	}{
		{"nothing at all", func(p *api.Pack) { *p = api.Pack{} }, api.ErrTypeSize},
		{"a year that may not be", func(p *api.Pack) { p.Year = 1 }, api.ErrTypeSize},
		{"a name that may not be", func(p *api.Pack) { p.Lines[0].Name = "A" }, api.ErrTypeName},
		{"a name twice", func(p *api.Pack) { p.Lines[0].Name = "kid" }, api.ErrTypeTwice},
		{"a table's bands", func(p *api.Pack) { p.Tables = []api.Table{{Name: "t", Bands: []api.Band{{From: 1}}}} }, api.ErrTypeTable},
		{"rows beyond all", func(p *api.Pack) { p.Groups[0].Rows = math.MaxInt }, api.ErrTypeGroup},
		{"an input with a clause", func(p *api.Pack) { p.Lines[3].Input = true }, api.ErrTypeLine},
		{"a guarded default", func(p *api.Pack) { p.Lines[3].Clauses[0].Guarded = true }, api.ErrTypeClause},
		{"no operator", func(p *api.Pack) { p.Lines[3].Clauses[0].Body.Op = 99 }, api.ErrTypeOp},
		{"a line below all", func(p *api.Pack) { p.Lines[3].Clauses[0].Body.Num = math.MinInt64 }, api.ErrTypeRef},
		{"another kind", func(p *api.Pack) { p.Lines[3].Clauses[0].Body = sum(1) }, api.ErrTypeKind},
		{"a cycle", func(*api.Pack) {}, api.ErrGraphCycle},
	} {
		refused(t, b.what+", and a cycle", turned(func(p *api.Pack) {
			p.Lines[2].Clauses[0].Body = op(api.OpMin, line(3), cents(100))
			b.does(p)
		}), b.errno)
	}
	refused(t, "a line that is itself", turned(func(p *api.Pack) { p.Lines[3].Clauses[0].Body = line(3) }), api.ErrGraphCycle)
}

func TestP10_1AnyPackEnds(t *testing.T) {
	r := rand.New(rand.NewSource(101))
	counts := map[api.Errno]int{}
	for range 300 {
		p := madePack(r, 8, shape{4, 2, 20})
		for range r.Intn(3) {
			l := &p.Lines[r.Intn(len(p.Lines))]
			switch r.Intn(5) {
			case 0:
				l.Group = strange(r)
			case 1:
				l.Type = strange(r)
			case 2:
				l.Input = !l.Input
			case 3:
				p.Groups = append(p.Groups, api.Group{Name: "more", Rows: strange(r)})
			default:
				l.Options = strange(r)
			}
		}
		_, want := eval.New(p)
		m, e := incr.New(p)
		if e != want || (m == nil) != (e != api.OK) {
			t.Fatalf("New(%+v): %t, error %d, want error %d", p, m != nil, e, want)
		}
		if counts[e]++; m != nil {
			asModel(t, "a new one", m, modelOf(t, p))
		}
	}
	if len(counts) < 5 || counts[api.OK] < 60 || counts[api.ErrGraphCycle] < 10 {
		t.Errorf("too few of a kind: %v", counts)
	}
}

func TestP10_1ANewMemo(t *testing.T) {
	m := made(t, allKinds())
	dirty(t, m, 15, 16, 17, 21, 22, 23)
	for cell := range uint32(26) {
		if n, ok := m.Last(cell); ok || !sameNode(n, api.Node{}) || m.Evals(cell) != 0 {
			t.Errorf("cell %d: %+v, %t, %d evaluations", cell, n, ok, m.Evals(cell))
		}
	}
	for cell := range uint32(15) {
		get(t, m, cell, blank, 0)
	}
	for cell := uint32(18); cell <= 20; cell++ {
		get(t, m, cell, no, 0)
	}
	dirty(t, m, 15, 16, 17, 21, 22, 23)
	m = made(t, flat(input("a", api.Cents, -1)))
	dirty(t, m)
	get(t, m, 0, blank, 0)
}

// lineCells: the cells of allKinds' lines, by the kind less 1: of no group, and of both rows.
func lineCells(kind int) []uint32 {
	return []uint32{uint32(kind), uint32(5 + 2*kind), uint32(6 + 2*kind)}
}

var (
	good = [][]api.Value{
		{cent(0), cent(1), cent(-api.MaxCents), cent(api.MaxCents)},
		{num(0), num(-1), num(api.MaxCount), num(-api.MaxCount)},
		{no, yes},
		{date(0), date(api.MaxDay)},
		{option(0), option(1)},
	}
	bad = [][]api.Value{
		{cent(api.MaxCents + 1), cent(-api.MaxCents - 1), cent(math.MinInt64)},
		{num(api.MaxCount + 1), num(-api.MaxCount - 1), num(math.MaxInt64)},
		{val(api.Flag, 2), val(api.Flag, -1)},
		{date(-1), date(api.MaxDay + 1)},
		{option(2), option(-1), option(7), option(8)},
	}
	never = []api.Value{{Num: 1}, {Num: -1}, needed, wrong, fault(0), {Kind: 7}, {Kind: -1, Num: 1}, {Kind: math.MaxInt}, {Kind: math.MinInt, Num: math.MinInt64}}
)

func TestP10_2Lines(t *testing.T) {
	m := made(t, allKinds())
	for kind := range 5 {
		for _, cell := range lineCells(kind) {
			set(t, m, cell, blank, false)
			for _, x := range good[kind] {
				set(t, m, cell, x, true)
				get(t, m, cell, x, 0)
				set(t, m, cell, x, false)
				get(t, m, cell, x, 0)
			}
			for other := range 5 {
				for _, x := range good[other] {
					if other != kind {
						refuses(t, m, cell, x, api.ErrIncrInput)
					}
				}
			}
			for _, x := range append(bad[kind], never...) {
				refuses(t, m, cell, x, api.ErrIncrInput)
			}
			set(t, m, cell, blank, true)
			get(t, m, cell, blank, 0)
			set(t, m, cell, blank, false)
		}
	}
}

func TestP10_2Flags(t *testing.T) {
	m := made(t, allKinds())
	for cell := uint32(18); cell <= 20; cell++ {
		for _, x := range []api.Value{no, blank} {
			set(t, m, cell, x, false)
			set(t, m, cell, yes, true)
			get(t, m, cell, yes, 0)
			set(t, m, cell, yes, false)
			set(t, m, cell, x, true)
			get(t, m, cell, no, 0)
			set(t, m, cell, no, false)
			set(t, m, cell, blank, false)
		}
		for _, x := range append([]api.Value{val(api.Flag, 2), val(api.Flag, -1), num(1), num(0), cent(1), date(1), option(1)}, never...) {
			refuses(t, m, cell, x, api.ErrIncrInput)
		}
	}
}

func TestP10_2NoInputsAndNoCells(t *testing.T) {
	m := made(t, allKinds())
	for _, x := range []api.Value{blank, cent(1), num(1), no, yes, wrong, {Kind: -5, Num: 5}} {
		for _, cell := range []uint32{15, 16, 17, 21, 22, 23} {
			refuses(t, m, cell, x, api.ErrIncrInput)
		}
		for _, cell := range []uint32{24, 25, 255, 256, 1 << 16, 1 << 31, math.MaxUint32} {
			refuses(t, m, cell, x, api.ErrIncrCell)
		}
	}
}

// What a change marks, and what marks nothing.
func TestP10_2Dirty(t *testing.T) {
	m := made(t, example())
	set(t, m, 6, yes, true)
	set(t, m, 7, yes, true)
	for _, c := range []struct {
		cell uint32
		v    api.Value
		want []uint32
	}{
		{0, cent(1), nil}, {1, num(3), []uint32{3, 5}}, {2, num(3), []uint32{4, 5}}, {6, no, []uint32{3, 5}}, {7, blank, []uint32{4, 5}}, {1, blank, []uint32{3, 5}},
	} {
		for cell := range uint32(6) {
			m.Get(cell)
		}
		dirty(t, m)
		set(t, m, c.cell, c.v, true)
		dirty(t, m, c.want...)
		set(t, m, c.cell, c.v, false)
		dirty(t, m, c.want...)
	}
	for cell := range uint32(6) {
		m.Get(cell)
	}
	set(t, m, 1, blank, false)
	set(t, m, 6, no, false)
	refuses(t, m, 1, cent(1), api.ErrIncrInput)
	dirty(t, m)
}

// A value may stand in a row that isn't used: it isn't read, and comes to count when the row is used.
func TestP10_2RowsThatAreNotUsed(t *testing.T) {
	m := made(t, example())
	set(t, m, 1, num(9), true)
	get(t, m, 1, num(9), 0)
	get(t, m, 3, blank, 1)
	get(t, m, 5, cent(0), 1)
	set(t, m, 6, yes, true)
	get(t, m, 5, cent(200000), 2)
	set(t, m, 6, no, true)
	get(t, m, 1, num(9), 0)
	get(t, m, 5, cent(0), 1)
	set(t, m, 1, num(10), true)
	get(t, m, 5, cent(0), 0)
}

func TestP10_3Errors(t *testing.T) {
	m := made(t, allKinds())
	load(t, m, 4, at(0, cent(5)), at(1, num(6)), at(8, num(7)), at(18, yes))
	m.Get(15)
	m.Get(17)
	head := at(0, cent(9))
	for _, cell := range []uint32{24, 25, 256, 1 << 31, math.MaxUint32} {
		loadRefuses(t, m, 1, api.ErrIncrCell, at(cell, blank), head)
		loadRefuses(t, m, 2, api.ErrIncrCell, head, at(cell, wrong))
		loadRefuses(t, m, 1, api.ErrIncrCell, at(cell, cent(1)), at(cell, cent(1)))
	}
	for _, cell := range []uint32{15, 16, 17, 21, 22, 23} {
		for _, x := range []api.Value{blank, cent(1), no, yes} {
			loadRefuses(t, m, 2, api.ErrIncrInput, head, at(cell, x), head)
		}
	}
	for kind := range 5 {
		for _, cell := range lineCells(kind) {
			for _, x := range append(append([]api.Value{blank}, bad[kind]...), never...) {
				loadRefuses(t, m, 1, api.ErrIncrInput, at(cell, x), at(20, yes))
			}
			loadRefuses(t, m, 2, api.ErrIncrInput, at(cell, good[kind][0]), at(cell, good[kind][0]), at(99, yes))
			loadRefuses(t, m, 2, api.ErrIncrInput, at(cell, good[kind][0]), at(cell, good[kind][1]), at(99, yes))
		}
	}
	for cell := uint32(18); cell <= 20; cell++ {
		for _, x := range append([]api.Value{blank, no, val(api.Flag, 2), num(1), cent(1)}, never...) {
			loadRefuses(t, m, 2, api.ErrIncrInput, head, at(cell, x), at(99, yes))
		}
		loadRefuses(t, m, 3, api.ErrIncrInput, head, at(cell, yes), at(cell, yes))
	}
	loadRefuses(t, m, 3, api.ErrIncrInput, at(1, num(1)), at(2, yes), at(0, cent(1)), at(99, yes))
	loadRefuses(t, m, 2, api.ErrIncrInput, at(18, yes), at(0, cent(1)))
	loadRefuses(t, m, 2, api.ErrIncrCell, at(18, yes), at(99, cent(1)), at(0, wrong))
	dirty(t, m, 16, 21, 22, 23)
}

func TestP10_3Counts(t *testing.T) {
	m := made(t, allKinds())
	load(t, m, 0)
	load(t, m, 2, at(2, no), at(7, num(3)))
	load(t, m, 1, at(2, no))
	load(t, m, 0, at(2, no))
	load(t, m, 1, at(2, yes))
	load(t, m, 3, at(0, cent(1)), at(2, no), at(20, yes))
	load(t, m, 2, at(2, no), at(4, option(0)), at(20, yes))
	if n, e := m.Load(nil); n != 3 || e != api.OK {
		t.Errorf("Load(nil): %d, error %d", n, e)
	}
	for cell := range uint32(21) {
		if x, _, _ := m.Get(cell); cell < 15 && x != blank || cell >= 18 && x != no {
			t.Errorf("cell %d holds %v", cell, x)
		}
	}
	load(t, m, 0)
}

func TestP10_3Dirty(t *testing.T) {
	m := made(t, example())
	all := func() {
		for cell := range uint32(6) {
			m.Get(cell)
		}
		dirty(t, m)
	}
	load(t, m, 3, at(1, num(9)), at(2, num(9)), at(7, yes))
	all()
	load(t, m, 0, at(1, num(9)), at(2, num(9)), at(7, yes))
	dirty(t, m)
	load(t, m, 1, at(0, cent(9)), at(1, num(9)), at(2, num(9)), at(7, yes))
	dirty(t, m)
	load(t, m, 2, at(1, num(9)), at(2, num(10)), at(7, yes))
	dirty(t, m, 4, 5)
	all()
	load(t, m, 1, at(2, num(10)), at(7, yes))
	dirty(t, m, 3, 5)
	all()
	load(t, m, 2)
	dirty(t, m, 4, 5)
	all()
	load(t, m, 2, at(1, num(1)), at(2, num(2)))
	dirty(t, m, 3, 4, 5)
}

// Some iterators go on when they are left; what they give then counts for nothing, and is no fault of the call.
func TestP10_3IteratorsThatGoOn(t *testing.T) {
	m := made(t, example())
	load(t, m, 2, at(1, num(9)), at(6, yes))
	was := text(m)
	for _, c := range []struct {
		l []api.Read
		e api.Errno
	}{
		{[]api.Read{at(0, cent(1)), at(3, cent(1)), at(99, yes), at(6, yes)}, api.ErrIncrInput},
		{[]api.Read{at(99, yes), at(3, cent(1)), at(0, cent(1))}, api.ErrIncrCell},
		{[]api.Read{at(6, yes), at(0, cent(1)), at(7, yes)}, api.ErrIncrInput},
	} {
		var told []bool
		n, e := m.Load(func(yield func(uint32, api.Value) bool) {
			for _, x := range c.l {
				told = append(told, yield(x.Cell, x.Seen))
			}
		})
		if n != 0 || e != c.e || text(m) != was {
			t.Errorf("Load(%v): %d, error %d, want %d; %s, was %s", c.l, n, e, c.e, text(m), was)
		}
		if i := slices.Index(told, false); len(told) != len(c.l) || slices.Contains(told[i:], true) {
			t.Errorf("Load(%v) told the iterator %v", c.l, told)
		}
	}
}

// An iterator may ask the memo that it is handed to, and change it: what it gives is laid in at the end.
func TestP10_3IteratorsThatAsk(t *testing.T) {
	m := made(t, example())
	load(t, m, 2, at(1, num(9)), at(6, yes))
	get(t, m, 5, cent(200000), 2)
	n, e := m.Load(func(yield func(uint32, api.Value) bool) {
		get(t, m, 5, cent(200000), 0)
		if !yield(1, num(10)) {
			return
		}
		get(t, m, 1, num(9), 0)
		set(t, m, 7, yes, true)
		get(t, m, 5, needed, 2)
		yield(6, yes)
		get(t, m, 5, needed, 0)
	})
	if n != 2 || e != api.OK {
		t.Errorf("Load: %d, error %d", n, e)
	}
	dirty(t, m, 3, 4, 5)
	get(t, m, 7, no, 0)
	get(t, m, 5, cent(200000), 2)
	get(t, m, 4, blank, 1)
}
