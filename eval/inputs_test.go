package eval_test

import (
	"math"
	"math/rand"
	"testing"

	"levy/api"
	"levy/eval"
	"levy/trie"
	"levy/types"
)

func TestP9_1Errors(t *testing.T) {
	for _, b := range []struct {
		what  string
		does  func(p *api.Pack)
		errno api.Errno
	}{
		{"nothing at all", func(p *api.Pack) { *p = api.Pack{} }, api.ErrTypeSize},
		{"a year that may not be", func(p *api.Pack) { p.Year = 1 }, api.ErrTypeSize},
		{"a name that may not be", func(p *api.Pack) { p.Lines[0].Name = "A" }, api.ErrTypeName},
		{"a name twice", func(p *api.Pack) { p.Lines[0].Name = "kid" }, api.ErrTypeTwice},
		{"a table's bands", func(p *api.Pack) { p.Tables = []api.Table{{Name: "t", Bands: []api.Band{{From: 1}}}} }, api.ErrTypeTable},
		{"rows beyond all", func(p *api.Pack) { p.Groups[0].Rows = math.MaxInt }, api.ErrTypeGroup},
		{"an input with a clause", func(p *api.Pack) { p.Lines[3].Input = true }, api.ErrTypeLine},
		{"a guarded default", func(p *api.Pack) { p.Lines[3].Clauses[0].Guarded = true }, api.ErrTypeClause},
		{"no operator", func(p *api.Pack) { p.Lines[3].Clauses[0].Body.Op = 99 }, api.ErrTypeOp},
		{"a line below all", func(p *api.Pack) { p.Lines[3].Clauses[0].Body.Num = math.MinInt64 }, api.ErrTypeRef},
		{"another kind", func(p *api.Pack) { p.Lines[3].Clauses[0].Body = sum(1) }, api.ErrTypeKind},
		{"a cycle", func(*api.Pack) {}, api.ErrGraphCycle},
	} {
		refused(t, b.what+", and a cycle", turned(func(p *api.Pack) {
			p.Lines[2].Clauses[0].Body = op(api.OpMin, line(3), cents(100))
			b.does(p)
		}), b.errno)
	}
	refused(t, "a line that is itself", turned(func(p *api.Pack) { p.Lines[3].Clauses[0].Body = line(3) }), api.ErrGraphCycle)
	made(t, example())
}

func TestP9_1AnyPackEnds(t *testing.T) {
	r := rand.New(rand.NewSource(91))
	counts := map[api.Errno]int{}
	for range 600 {
		p := madePack(r, 12, shape{4, 2, 20})
		if r.Intn(3) > 0 {
			bendSome(r, &p)
		}
		_, want := types.Check(p)
		v, e := eval.New(p)
		if want == api.OK && e == api.ErrGraphCycle {
			want = e
		}
		if e != want || (v == nil) != (e != api.OK) {
			t.Fatalf("New(%+v): %t, error %d, want error %d", p, v != nil, e, want)
		}
		if counts[e]++; v != nil {
			text(v, madeInputs(r, p, v))
		}
	}
	if len(counts) < 6 || counts[api.OK] < 100 || counts[api.ErrGraphCycle] < 20 {
		t.Errorf("too few of a kind: %v", counts)
	}
}

// strange: numbers that may stand anywhere.
func strange(r *rand.Rand) int {
	return pick(r, math.MinInt, math.MinInt32, -2, -1, 0, 0, 1, 1, 2, 3, 5, 6, 8, 9, 42, math.MaxInt32, math.MaxInt)
}

// bendSome changes one number of a pack, which then may or may not have a fault.
func bendSome(r *rand.Rand, p *api.Pack) {
	l := &p.Lines[r.Intn(len(p.Lines))]
	group := &api.Group{}
	if len(p.Groups) > 0 {
		group = &p.Groups[r.Intn(len(p.Groups))]
	}
	e := &api.Expr{}
	if len(l.Clauses) > 0 {
		e = &l.Clauses[r.Intn(len(l.Clauses))].Body
	}
	for len(e.Args) > 0 && r.Intn(3) > 0 {
		e = &e.Args[r.Intn(len(e.Args))]
	}
	switch r.Intn(7) {
	case 0:
		group.Rows = strange(r)
	case 1:
		l.Group = strange(r)
	case 2:
		l.Type = strange(r)
	case 3:
		l.Input = !l.Input
	case 4:
		e.Op = pick(r, strange(r), r.Intn(44))
	default:
		e.Num = int64(strange(r))
	}
}

func TestP9_1StrangeLists(t *testing.T) {
	loop := make([]api.Expr, 2)
	loop[0], loop[1] = op(api.OpAdd, loop...), op(api.OpAdd, loop...)
	deep := cents(1)
	for range 1 << 16 {
		deep = op(api.OpNeg, deep)
	}
	shared := line(0)
	for range 60 {
		shared = op(api.OpAdd, shared, shared, shared, shared, shared, shared)
	}
	v := made(t, example())
	for _, e := range []api.Expr{loop[0], deep, shared, op(api.OpAdd, loop...)} {
		refused(t, "a strange body", turned(func(p *api.Pack) { p.Lines[3].Clauses[0].Body = e }), api.ErrTypeSize)
		if x := v.Expr(trie.Empty(), -1, 0, e); x != wrong {
			t.Errorf("a strange expression: %v", x)
		}
	}
	twice := []api.Expr{line(0), sum(2)}
	v = made(t, turned(func(p *api.Pack) {
		p.Lines[3].Clauses[0].Body = op(api.OpAdd, op(api.OpAdd, twice...), op(api.OpSub, twice...))
	}))
	tells(t, "a list that stands twice", v, api.Node{Cell: 5, Val: cent(14), Reads: []api.Read{at(0, cent(7)), at(6, yes), at(3, cent(100)), at(7, no)}})
}

func TestP9_1NilAndEmptyAreTheSame(t *testing.T) {
	p := example()
	p.Options, p.Tables, p.Checks, p.Lines[0].Clauses, p.Lines[1].Clauses = []api.Options{}, []api.Table{}, []api.Check{}, []api.Clause{}, []api.Clause{}
	p.Lines[2].Clauses[0].Guard.Args = []api.Expr{}
	p.Lines[3].Clauses[0].Body.Args = []api.Expr{}
	in := inputs(at(0, cent(5)), at(1, num(3)), at(6, yes))
	if a, b := text(made(t, p), in), text(made(t, example()), in); a != b {
		t.Errorf("with empty lists: %s, with nil ones: %s", a, b)
	}
}

// allKinds: input lines of all kinds, in no group and in one of two rows, and a check. Cells: 0 to 4 c, n, f, d, o; 5 to 14 kc, kn, kf, kd, ko; 15 x; 16, 17 kx; 18, 19 the flags of kid; 20 the flag of slip; 21, 22 the check of kid, 23 the other one.
func allKinds() api.Pack {
	p := api.Pack{
		Name: "all", Year: 2024, Groups: []api.Group{{Name: "kid", Rows: 2}, {Name: "slip", Rows: 1}},
		Options: []api.Options{{Name: "other", Names: []string{"a", "b", "c", "d"}}, {Name: "status", Names: []string{"single", "joint"}}},
	}
	for group, lead := range []string{"", "k"} {
		for kind, name := range []string{"c", "n", "f", "d", "o"} {
			p.Lines = append(p.Lines, input(lead+name, kind+1, group-1))
		}
		p.Lines[5*group+4].Options = 1
	}
	p.Lines = append(p.Lines, computed("x", api.Cents, -1, line(0)), computed("kx", api.Cents, 0, line(5)))
	p.Checks = []api.Check{{Name: "one", Group: 0, When: line(7), Text: "so"}, {Name: "two", Group: -1, When: line(2), Text: "so"}}
	return p
}

func TestP9_3Fits(t *testing.T) {
	v := made(t, allKinds())
	both := []api.Read{at(18, yes), at(19, yes)}
	good := [][]api.Value{
		{cent(0), cent(1), cent(-api.MaxCents), cent(api.MaxCents)},
		{num(0), num(-1), num(api.MaxCount), num(-api.MaxCount)},
		{no, yes},
		{date(0), date(api.MaxDay)},
		{option(0), option(1)},
	}
	bad := [][]api.Value{
		{cent(api.MaxCents + 1), cent(-api.MaxCents - 1), cent(math.MinInt64)},
		{num(api.MaxCount + 1), num(-api.MaxCount - 1), num(math.MaxInt64)},
		{val(api.Flag, 2), val(api.Flag, -1)},
		{date(-1), date(api.MaxDay + 1)},
		{option(2), option(-1), option(7), option(8)},
	}
	for line := range 10 {
		cells := []uint32{uint32(line)}
		if line >= 5 {
			cells = []uint32{uint32(2*line - 5), uint32(2*line - 4)}
		}
		for _, cell := range cells {
			for _, x := range good[line%5] {
				fits(t, v, api.OK, append(both, at(cell, x))...)
			}
			for _, x := range bad[line%5] {
				fits(t, v, api.ErrEvalInput, append(both, at(cell, x))...)
			}
			for kind, l := range good {
				if kind != line%5 {
					fits(t, v, api.ErrEvalInput, append(both, at(cell, l[0]))...)
				}
			}
			for _, x := range []api.Value{blank, {Num: 1}, needed, over, {Kind: 7}, {Kind: -1}, {Kind: math.MaxInt, Num: 1}} {
				fits(t, v, api.ErrEvalInput, append(both, at(cell, x))...)
			}
		}
	}
}

// fits asks for Fits's answer, and for what the other calls make of it.
func fits(t *testing.T, v *eval.Eval, want api.Errno, l ...api.Read) {
	t.Helper()
	in := inputs(l...)
	if e := v.Fits(in); e != want {
		t.Errorf("Fits(%v): %d, want %d", l, e, want)
	}
	if x, e := v.One(in, 0); e != want || e != api.OK && x != blank {
		t.Errorf("One(%v): %v, %d, want %d", l, x, e, want)
	}
	if l := v.All(in); (len(l) == 0) != (want != api.OK) {
		t.Errorf("All(%v): %d values", l, len(l))
	}
	if x := v.Expr(in, -1, 0, cents(1)); (x == wrong) != (want != api.OK) {
		t.Errorf("Expr(%v): %v", l, x)
	}
}

func TestP9_3Places(t *testing.T) {
	v := made(t, allKinds())
	fits(t, v, api.OK)
	for cell := uint32(15); cell < 24; cell++ {
		for _, x := range []api.Value{cent(1), yes, no, blank} {
			want := api.ErrEvalInput
			if cell >= 18 && cell <= 20 && x == yes {
				want = api.OK
			}
			fits(t, v, want, at(cell, x))
		}
	}
	for _, x := range []api.Value{{}, num(1), val(api.Flag, 2), val(api.Flag, -1), needed, {Kind: api.Day, Num: 1}} {
		fits(t, v, api.ErrEvalInput, at(18, x))
	}
	for _, cell := range []uint32{24, 25, 255, 256, 1 << 31, 1<<31 + 18, math.MaxUint32} {
		fits(t, v, api.ErrEvalCell, at(cell, yes))
		fits(t, v, api.ErrEvalCell, at(cell, blank), at(18, yes), at(5, cent(1)))
		fits(t, v, api.ErrEvalInput, at(cell, yes), at(18, no))
		fits(t, v, api.ErrEvalInput, at(cell, yes), at(15, cent(1)))
		fits(t, v, api.ErrEvalInput, at(cell, yes), at(21, yes))
	}
}

func TestP9_3UnusedRows(t *testing.T) {
	v := made(t, allKinds())
	for line, x := range []api.Value{cent(1), num(1), yes, date(1), option(1)} {
		for row := range uint32(2) {
			cell := uint32(5+2*line) + row
			fits(t, v, api.ErrEvalInput, at(cell, x))
			fits(t, v, api.ErrEvalInput, at(cell, x), at(19-row, yes))
			fits(t, v, api.ErrEvalInput, at(cell, x), at(20, yes))
			fits(t, v, api.ErrEvalInput, at(cell, x), at(18+row, no))
			fits(t, v, api.OK, at(cell, x), at(18+row, yes))
			fits(t, v, api.OK, at(cell, x), at(18, yes), at(19, yes))
		}
		fits(t, v, api.OK, at(uint32(line), x))
	}
}

func TestP9_5NoSuchCell(t *testing.T) {
	v := made(t, example())
	for _, cell := range []uint32{8, 9, 255, 256, 1 << 31, math.MaxUint32} {
		for _, in := range []*trie.Map{inputs(), inputs(at(0, cent(5))), inputs(at(0, blank)), inputs(at(99, yes))} {
			if x, e := v.One(in, cell); x != blank || e != api.ErrEvalCell {
				t.Errorf("One(%d): %v, error %d", cell, x, e)
			}
		}
	}
	for cell := range uint32(8) {
		if x, e := v.One(inputs(at(0, num(5)), at(99, yes)), cell); x != blank || e != api.ErrEvalInput {
			t.Errorf("One(%d): %v, error %d", cell, x, e)
		}
		if x, e := v.One(inputs(at(0, cent(5)), at(99, yes)), cell); x != blank || e != api.ErrEvalCell {
			t.Errorf("One(%d): %v, error %d", cell, x, e)
		}
	}
}
