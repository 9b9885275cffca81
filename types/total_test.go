package types_test

import (
	"math"
	"math/rand"
	"slices"
	"strings"
	"testing"

	"levy/api"
	"levy/types"
)

// The chapter's words on memory and on ends, of all calls.

// all calls everything over a pack, and tells what was answered.
func all(p api.Pack, group int, e api.Expr) string {
	s, errno := types.Check(p)
	k, o, path, errno2 := types.Type(p, group, e)
	rest := []any{s, errno, k, o, path, errno2, types.Line(p, "tax"), types.Option(p, group, "joint"), types.Cells(p)}
	for n := -1; n <= len(p.Lines); n++ {
		for kind := range 7 {
			rest = append(rest, types.Fits(p, n, api.Value{Kind: kind, Num: int64(group)}))
		}
	}
	return text(rest)
}

// roomy: a list with spare room behind it that has something in it.
func roomy[T any](l []T, spare T) []T { return append(slices.Clone(l), spare, spare)[:len(l)] }

func roomyExpr(e api.Expr) api.Expr {
	e.Args = roomy(e.Args, api.Expr{Op: -9, Num: -9})
	for i, a := range e.Args {
		e.Args[i] = roomyExpr(a)
	}
	return e
}

func roomyPack(p api.Pack) api.Pack {
	p.Options, p.Tables, p.Groups = roomy(p.Options, api.Options{Name: "-9"}), roomy(p.Tables, api.Table{Name: "-9"}), roomy(p.Groups, api.Group{Name: "-9"})
	p.Lines, p.Checks = roomy(p.Lines, api.Line{Name: "-9"}), roomy(p.Checks, api.Check{Name: "-9"})
	for i, o := range p.Options {
		p.Options[i].Names = roomy(o.Names, "-9")
	}
	for i, t := range p.Tables {
		p.Tables[i].Bands = roomy(t.Bands, api.Band{From: -9})
	}
	for i, l := range p.Lines {
		p.Lines[i].Clauses = roomy(l.Clauses, api.Clause{Priority: -9})
		for j, c := range p.Lines[i].Clauses {
			p.Lines[i].Clauses[j].Guard, p.Lines[i].Clauses[j].Body = roomyExpr(c.Guard), roomyExpr(c.Body)
		}
	}
	for i, c := range p.Checks {
		p.Checks[i].When = roomyExpr(c.When)
	}
	return p
}

func wholeExpr(e api.Expr) api.Expr {
	e.Args = slices.Clone(e.Args[:cap(e.Args)])
	for i, a := range e.Args {
		e.Args[i] = wholeExpr(a)
	}
	return e
}

// whole: a copy of a pack with all spare room laid open.
func whole(p api.Pack) api.Pack {
	p.Options, p.Tables, p.Groups = slices.Clone(p.Options[:cap(p.Options)]), slices.Clone(p.Tables[:cap(p.Tables)]), slices.Clone(p.Groups[:cap(p.Groups)])
	p.Lines, p.Checks = slices.Clone(p.Lines[:cap(p.Lines)]), slices.Clone(p.Checks[:cap(p.Checks)])
	for i, o := range p.Options {
		p.Options[i].Names = o.Names[:cap(o.Names)]
	}
	for i, t := range p.Tables {
		p.Tables[i].Bands = t.Bands[:cap(t.Bands)]
	}
	for i, l := range p.Lines {
		p.Lines[i].Clauses = slices.Clone(l.Clauses[:cap(l.Clauses)])
		for j, c := range p.Lines[i].Clauses {
			p.Lines[i].Clauses[j].Guard, p.Lines[i].Clauses[j].Body = wholeExpr(c.Guard), wholeExpr(c.Body)
		}
	}
	for i, c := range p.Checks {
		p.Checks[i].When = wholeExpr(c.When)
	}
	return p
}

func TestP6_1ArgumentsStayAsTheyAre(t *testing.T) {
	r := rand.New(rand.NewSource(1))
	for range 500 {
		made := madePack(r)
		for range r.Intn(3) {
			bendSome(r, &made)
		}
		p := roomyPack(made)
		e := roomyExpr(makerOver(r, sample(), -1).expr(pick(r, kinds...), 5))
		was, wasExpr := text(whole(p)), text(wholeExpr(e))
		first := all(p, -1, e)
		if text(whole(p)) != was || text(wholeExpr(e)) != wasExpr {
			t.Fatalf("an argument was changed: %+v", made)
		}
		if again := all(p, -1, e); again != first {
			t.Fatalf("the same call again: %s, then %s", first, again)
		}
	}
}

func TestP6_1AnswersAreNewMemory(t *testing.T) {
	p := sample()
	p.Checks[1].When.Args[1].Args[0] = line(slipF)
	e := op(api.OpAdd, line(0), op(api.OpNeg, line(99)))
	var spots [2]api.Spot
	var paths [2][]int
	for i := range 2 {
		spots[i], _ = types.Check(p)
		_, _, paths[i], _ = types.Type(p, -1, e)
	}
	for _, l := range [][]int{spots[0].Path, paths[0]} {
		l = l[:cap(l)]
		for i := range l {
			l[i] = -9
		}
	}
	if !slices.Equal(spots[1].Path, []int{1, 0}) || !slices.Equal(paths[1], []int{1, 0}) {
		t.Errorf("two answers share memory: %v, %v", spots[1].Path, paths[1])
	}
	checks(t, "an answer that was written into", p, spot(6, 1, -1, 1, 0), api.ErrTypeRef)
	isNot(t, p, -1, e, api.ErrTypeRef, 1, 0)
}

func TestP6_1NilAndEmptyAreTheSame(t *testing.T) {
	empty := func(e api.Expr) api.Expr { e.Args = []api.Expr{}; return e }
	p := sample()
	for o := range 45 {
		a, b := proper(o), empty(proper(o))
		k, n, path, errno := types.Type(p, 0, a)
		if k2, n2, path2, errno2 := types.Type(p, 0, b); k != k2 || n != n2 || errno != errno2 || len(path) != len(path2) {
			t.Errorf("operator %d: nil and empty Args are unlike", o)
		}
	}
	q := sample()
	q.Options[1].Names = []string{}
	checks(t, "an empty list of options", q, spot(2, 1, -1), api.ErrTypeSize)
	q = sample()
	q.Tables[1].Bands = []api.Band{}
	checks(t, "an empty list of bands", q, spot(3, 1, -1), api.ErrTypeSize)
	q = sample()
	q.Lines[lineTax].Clauses = []api.Clause{}
	checks(t, "an empty list of clauses", q, spot(5, lineTax, -1), api.ErrTypeLine)
}

// withExpr: sample with an expression as a body, a guard and a check.
func withExpr(e api.Expr) []api.Pack {
	body, guard, check := sample(), sample(), sample()
	body.Lines[lineTax].Clauses[0].Body = e
	guard.Lines[lineTax].Clauses[1].Guard = e
	check.Checks[0].When = e
	first := sample()
	first.Lines[lineTax].Clauses[0].Guard = e
	return []api.Pack{body, guard, check, first}
}

func TestP6_1StrangeLists(t *testing.T) {
	loop := make([]api.Expr, 2)
	loop[0], loop[1] = op(api.OpAnd, loop...), op(api.OpAnd, loop...)
	zeros := slices.Repeat([]int{0}, 8)
	isNot(t, sample(), -1, loop[0], api.ErrTypeSize, zeros...)
	deep := flag(1)
	for range 1 << 16 {
		deep = op(api.OpNot, deep)
	}
	isNot(t, sample(), -1, deep, api.ErrTypeSize, zeros...)
	wide := op(api.OpAnd, slices.Repeat([]api.Expr{flag(1)}, 1<<16)...)
	isNot(t, sample(), -1, wide, api.ErrTypeOp)
	shared := line(lineC)
	for range 60 {
		shared = op(api.OpAdd, shared, shared, shared, shared, shared, shared)
	}
	isNot(t, sample(), -1, shared, api.ErrTypeSize, zeros...)
	for _, e := range []api.Expr{loop[0], deep, shared} {
		l := withExpr(e)
		checks(t, "a strange body", l[0], spot(5, lineTax, 0, append([]int{1}, zeros...)...), api.ErrTypeSize)
		checks(t, "a strange guard", l[1], spot(5, lineTax, 1, append([]int{0}, zeros...)...), api.ErrTypeSize)
		checks(t, "a strange check", l[2], spot(6, 0, -1, zeros...), api.ErrTypeSize)
		checks(t, "a strange guard of a default", l[3], spot(5, lineTax, 0), api.ErrTypeClause)
	}
	p := sample()
	p.Name = strings.Repeat("a", 1<<20)
	checks(t, "a long name", p, spot(1, 0, -1), api.ErrTypeName)
	p = sample()
	p.Lines = make([]api.Line, 1<<20)
	checks(t, "many lines", p, spot(5, 0, -1), api.ErrTypeSize)
	p = sample()
	p.Lines[lineTax].Clauses = make([]api.Clause, 1<<16)
	checks(t, "many clauses", p, spot(5, lineTax, -1), api.ErrTypeLine)
	p = sample()
	p.Options[0].Names = make([]string, 1<<16)
	checks(t, "many options", p, spot(2, 0, -1), api.ErrTypeSize)
}

// strange: numbers that may stand anywhere.
func strange(r *rand.Rand) int {
	return pick(r, math.MinInt, math.MinInt32, -2, -1, 0, 0, 1, 1, 2, 3, 5, 6, 8, 9, 42, math.MaxInt32, math.MaxInt)
}

func strangeExpr(r *rand.Rand, deep int) api.Expr {
	e := api.Expr{Op: pick(r, strange(r), r.Intn(44))}
	if r.Intn(2) == 0 {
		e.Num, e.Den, e.Mode = int64(strange(r)), int64(strange(r)), strange(r)
	}
	for range r.Intn(4) * min(deep, 1) {
		e.Args = append(e.Args, strangeExpr(r, deep-1))
	}
	return e
}

// strangePack: a pack of which nothing is sure.
func strangePack(r *rand.Rand) api.Pack {
	name := func() string { return pick(r, "a", "b", "", "tax", "\xff", "c", "d", "e") }
	p := api.Pack{Name: name(), Year: pick(r, strange(r), 2000)}
	for range r.Intn(4) {
		p.Options = append(p.Options, api.Options{Name: name(), Names: make([]string, r.Intn(10))})
		p.Tables = append(p.Tables, api.Table{Name: name(), Bands: make([]api.Band, r.Intn(10))})
		p.Groups = append(p.Groups, api.Group{Name: name(), Rows: strange(r)})
		p.Lines = append(p.Lines, api.Line{Name: name(), Input: r.Intn(2) == 0, Type: strange(r), Options: strange(r), Group: strange(r), Clauses: []api.Clause{{Priority: strange(r), Guarded: r.Intn(2) == 0, Guard: strangeExpr(r, 3), Body: strangeExpr(r, 3)}}})
		p.Checks = append(p.Checks, api.Check{Name: name(), Group: strange(r), When: strangeExpr(r, 3), Text: name()})
	}
	return p
}

func TestP6_1AnyPackEnds(t *testing.T) {
	r := rand.New(rand.NewSource(66))
	for range 20000 {
		p := strangePack(r)
		want, errno := modelCheck(p)
		checks(t, "a strange pack", p, want, errno)
		asModel(t, p, strange(r), strangeExpr(r, 4))
		all(p, strange(r), strangeExpr(r, 4))
		if types.Cells(p) != modelCells(p) {
			t.Errorf("Cells(%+v): %d", p, types.Cells(p))
		}
	}
}
