package graph_test

import (
	"fmt"
	"math/rand"
	"slices"
	"testing"

	"levy/api"
)

// The lines of linked: its inputs, by kind, of no group (cells 0 to 4), of group 0 (2 rows: cells 5 to 14) and of group 1 (3 rows: cells 15 to 17). Where no line is added, the flags are the cells 18 to 22.
const (
	lineC, lineN, lineF, lineD, lineO = 0, 1, 2, 3, 4
	kidC, kidN, kidF, kidD, kidO      = 5, 6, 7, 8, 9
	slipC                             = 10
)

// linked: inputs of all kinds, and what else is handed in, at the end: lines and checks.
func linked(lines []api.Line, checks ...api.Check) api.Pack {
	p := api.Pack{
		Name: "linked", Year: 2024,
		Options: []api.Options{{Name: "status", Names: []string{"single", "joint"}}},
		Tables:  []api.Table{{Name: "rates", Bands: []api.Band{{Rate: 5}}}},
		Groups:  []api.Group{{Name: "kid", Rows: 2}, {Name: "slip", Rows: 3}},
	}
	for i, group := range []int{-1, 0} {
		for j, k := range kinds[:5] {
			p.Lines = append(p.Lines, api.Line{Name: named("in", 5*i+j), Input: true, Type: k.kind, Options: k.options, Group: group})
		}
	}
	p.Lines = append(p.Lines, input("slip_c", api.Cents, 1))
	p.Lines = append(p.Lines, lines...)
	p.Checks = checks
	return p
}

// checkOf: a check of a group that asks a flag.
func checkOf(group int, when api.Expr) api.Check {
	return api.Check{Name: "check", Group: group, When: when, Text: "so"}
}

// reach: a pack whose check asks an expression in some way, which tells nothing of it but that it is read.
func reach(group int, e api.Expr, k kind) api.Pack {
	if k.kind == api.Flag {
		return linked(nil, checkOf(group, e))
	}
	return linked(nil, checkOf(group, op(api.OpEq, e, e)))
}

// operatorCases: each operator, as it may stand, the kind that it is of, and the cells that it may read in a check of group 0 at row 1, the row's flag aside.
func operatorCases() []struct {
	e     api.Expr
	kind  int
	reads []int
} {
	c, n, f, d := line(lineC), line(lineN), line(lineF), line(lineD)
	kc, kn, kf, kd := line(kidC), line(kidN), line(kidF), line(kidD)
	one := func(o int, e api.Expr, num, den int64, mode int) api.Expr {
		return api.Expr{Op: o, Num: num, Den: den, Mode: mode, Args: []api.Expr{e}}
	}
	return []struct {
		e     api.Expr
		kind  int
		reads []int
	}{
		{cents(1), api.Cents, nil}, {count(1), api.Count, nil}, {flag(1), api.Flag, nil}, {day(1), api.Day, nil}, {choice(0, 1), api.Choice, nil},
		{c, api.Cents, []int{lineC}}, {kc, api.Cents, []int{6}}, {line(kidO), api.Choice, []int{14}},
		{sum(kidC), api.Cents, []int{5, 6, 18, 19}}, {of(api.OpLeast, kidD), api.Day, []int{11, 12, 18, 19}}, {of(api.OpGreatest, kidN), api.Count, []int{7, 8, 18, 19}},
		{of(api.OpAny, kidF), api.Flag, []int{9, 10, 18, 19}}, {of(api.OpAll, kidF), api.Flag, []int{9, 10, 18, 19}}, {sum(slipC), api.Cents, []int{15, 16, 17, 20, 21, 22}},
		{of(api.OpUsed, 0), api.Count, []int{18, 19}}, {of(api.OpUsed, 1), api.Count, []int{20, 21, 22}},
		{op(api.OpAdd, c, cents(1), kc), api.Cents, []int{0, 6}}, {op(api.OpMin, kn, n), api.Count, []int{1, 8}}, {op(api.OpMax, c, kc), api.Cents, []int{0, 6}},
		{op(api.OpSub, kc, c), api.Cents, []int{0, 6}}, {op(api.OpNeg, kc), api.Cents, []int{6}}, {op(api.OpAbs, n), api.Count, []int{1}}, {op(api.OpClamp, cents(1), c, kc), api.Cents, []int{0, 6}},
		{one(api.OpScale, kc, 5, 7, 1), api.Cents, []int{6}}, {op(api.OpTimes, kc, n), api.Cents, []int{1, 6}}, {api.Expr{Op: api.OpSplit, Mode: 1, Args: []api.Expr{c, kn}}, api.Cents, []int{0, 8}},
		{one(api.OpRound, c, 5, 0, 1), api.Cents, []int{0}}, {of(api.OpBracket, 0, kc), api.Cents, []int{6}},
		{op(api.OpEq, line(lineO), line(kidO)), api.Flag, []int{4, 14}}, {op(api.OpNe, f, kf), api.Flag, []int{2, 10}},
		{op(api.OpLt, d, kd), api.Flag, []int{3, 12}}, {op(api.OpLe, kc, c), api.Flag, []int{0, 6}}, {op(api.OpGt, n, count(0)), api.Flag, []int{1}}, {op(api.OpGe, count(0), kn), api.Flag, []int{8}},
		{op(api.OpAnd, flag(0), f, kf), api.Flag, []int{2, 10}}, {op(api.OpOr, flag(1), f, kf), api.Flag, []int{2, 10}}, {op(api.OpNot, kf), api.Flag, []int{10}},
		{op(api.OpIf, flag(1), c, kc), api.Cents, []int{0, 6}}, {op(api.OpIf, flag(0), c, kc), api.Cents, []int{0, 6}}, {op(api.OpIf, f, d, kd), api.Day, []int{2, 3, 12}},
		{op(api.OpIsBlank, line(lineO)), api.Flag, []int{4}}, {op(api.OpIsBlank, kd), api.Flag, []int{12}}, {op(api.OpElse, cents(1), kc), api.Cents, []int{6}}, {op(api.OpElse, kc, c), api.Cents, []int{0, 6}},
		{op(api.OpYear, d), api.Count, []int{3}}, {op(api.OpAge, d, kd), api.Count, []int{3, 12}}, {op(api.OpMonths, kd, day(1)), api.Count, []int{12}}, {op(api.OpDays, day(1), d), api.Count, []int{3}},
		{op(api.OpAddMonths, kd, n), api.Day, []int{1, 12}},
	}
}

func TestP8_4Operators(t *testing.T) {
	seen := map[int]bool{}
	for _, c := range operatorCases() {
		seen[c.e.Op] = true
		g := made(t, reach(0, c.e, kind{c.kind, 0}))
		want := append(slices.Clone(c.reads), 19)
		slices.Sort(want)
		gives(t, fmt.Sprintf("a check of %+v", c.e), g.Reads(24), slices.Compact(want)...)
	}
	for o := api.OpCents; o <= api.OpDays; o++ {
		if !seen[o] {
			t.Errorf("operator %d isn't asked for", o)
		}
	}
}

func TestP8_4InputsAndFlagsReadNothing(t *testing.T) {
	g := made(t, linked([]api.Line{computed("x", api.Cents, 0, sum(slipC))}, checkOf(0, of(api.OpAny, kidF))))
	for cell := range 18 {
		gives(t, "an input", g.Reads(cell))
	}
	for cell := 20; cell < 25; cell++ {
		gives(t, "a flag", g.Reads(cell))
	}
	gives(t, "a computed line", g.Reads(18), 15, 16, 17, 20, 22, 23, 24)
	gives(t, "a check", g.Reads(26), 9, 10, 20, 21)
}

func TestP8_4OwnRow(t *testing.T) {
	g := made(t, linked([]api.Line{computed("one", api.Cents, 1, line(slipC)), computed("none", api.Cents, 1, cents(1)), computed("far", api.Cents, 1, line(lineC)), computed("other", api.Cents, 0, sum(11)), computed("all", api.Cents, -1, op(api.OpAdd, sum(11), of(api.OpSum, kidC), line(lineC)))}))
	spots(t, "Flag", g.Flag, 1, 0, 32)
	for row := range 3 {
		gives(t, "the own row's line", g.Reads(18+row), 15+row, 32+row)
		gives(t, "no line", g.Reads(21+row), 32+row)
		gives(t, "a line of no group", g.Reads(24+row), 0, 32+row)
	}
	for row := range 2 {
		gives(t, "another group's column", g.Reads(27+row), 18, 19, 20, 30+row, 32, 33, 34)
	}
	gives(t, "columns, from no group", g.Reads(29), 0, 5, 6, 18, 19, 20, 30, 31, 32, 33, 34)
	gives(t, "who reads the wage", g.Users(0), 24, 25, 26, 29)
	gives(t, "who reads a slip", g.Users(16), 19)
	gives(t, "who reads a flag of slips", g.Users(33), 19, 22, 25, 27, 28, 29)
	gives(t, "who reads a flag of kids", g.Users(31), 28, 29)
	gives(t, "who reads the last", g.Users(29))
}

// All guards and bodies count, of all clauses, however deep, whatever decides.
func TestP8_4AllClauses(t *testing.T) {
	deep := func(e api.Expr) api.Expr {
		for range api.MaxDeep - 1 {
			e = op(api.OpNeg, e)
		}
		return e
	}
	bodies := []api.Expr{deep(line(0)), line(2), deep(line(4)), line(6), line(8), deep(line(10))}
	in := []api.Line{}
	for i := range 11 {
		in = append(in, input(named("i", i), []int{api.Cents, api.Flag}[i%2], -1))
	}
	x := computed("x", api.Cents, -1, bodies[0])
	for i := 1; i < api.MaxClauses; i++ {
		x.Clauses = append(x.Clauses, api.Clause{Priority: 10 - i, Guarded: true, Guard: op(api.OpOr, flag(1), line(2*i-1)), Body: bodies[i]})
	}
	g := made(t, api.Pack{Name: "clauses", Year: 2024, Lines: append(in, x)})
	gives(t, "eleven expressions", g.Reads(11), 0, 1, 2, 3, 4, 5, 6, 7, 8, 9, 10)
	for cell := range 11 {
		gives(t, "each is used", g.Users(cell), 11)
	}
}

func TestP8_5EachOnce(t *testing.T) {
	e := op(api.OpAdd, line(lineC), line(lineC), sum(kidC), sum(kidC), op(api.OpSub, line(lineC), line(lineC)))
	g := made(t, linked([]api.Line{computed("x", api.Cents, 0, e)}, checkOf(0, op(api.OpGt, op(api.OpMax, sum(11), line(11)), line(11)))))
	gives(t, "a line", g.Reads(18), 0, 5, 6, 20, 21)
	gives(t, "a check", g.Reads(25), 18, 19, 20, 21)
	gives(t, "a flag", g.Users(20), 18, 19, 25, 26)
	gives(t, "the wage", g.Users(0), 18, 19)
}

func TestP8_5NoCell(t *testing.T) {
	for _, p := range []api.Pack{example(), placed(), full()} {
		g := made(t, p)
		for _, cell := range noCells(g.Cells()) {
			if g.Reads(cell) == nil || g.Users(cell) == nil {
				t.Fatalf("a nil iterator of %d", cell)
			}
			gives(t, "Reads of no cell", g.Reads(cell))
			gives(t, "Users of no cell", g.Users(cell))
		}
	}
}

// shapes: packs without and with cycles, sparse and dense.
var shapes = []shape{{1, 0, 20}, {4, 0, 20}, {2, 0, 60}, {1, 1, 20}, {1, 5, 50}, {2, 1, 70}, {1, 100, 70}, {3, 100, 50}}

func TestP8_4AsTheModelTells(t *testing.T) {
	r := rand.New(rand.NewSource(84))
	graphs, witnesses := 0, 0
	for i := range 600 {
		switch asModel(t, madePack(r, pick(r, 4, 12, 30, 48), shapes[i%len(shapes)])) {
		case 0:
			graphs++
		default:
			witnesses++
		}
	}
	if graphs < 200 || witnesses < 100 {
		t.Errorf("%d graphs, %d witnesses: too few of a kind", graphs, witnesses)
	}
}

func TestP8_12OneRelation(t *testing.T) {
	r := rand.New(rand.NewSource(812))
	for range 100 {
		g := made(t, madePack(r, 48, shape{3, 0, 20}))
		type read struct{ cell, other int }
		reads, uses := map[read]int{}, map[read]int{}
		for cell := range g.Cells() {
			for other := range g.Reads(cell) {
				reads[read{cell, other}]++
			}
			for other := range g.Users(cell) {
				uses[read{other, cell}]++
			}
		}
		if fmt.Sprint(reads) != fmt.Sprint(uses) {
			t.Fatalf("Reads: %v, Users: %v", reads, uses)
		}
	}
}
