package types_test

import (
	"fmt"
	"slices"
	"testing"

	"levy/api"
	"levy/types"
)

// The numbers of sample's input lines: by kind, in no group, in group 0 (kid), in group 1 (slip).
const (
	lineC, lineN, lineF, lineD, lineO, lineS = 0, 1, 2, 3, 4, 5
	kidC, kidN, kidF, kidD, kidO             = 6, 7, 8, 9, 10
	slipC, slipF                             = 11, 12
)

// The numbers of its computed lines.
const (
	lineTax, lineOwn, linePick = 13, 14, 15
)

// sample: a pack that is well formed and has some of everything.
func sample() api.Pack {
	return api.Pack{
		Name: "sample", Year: 2025,
		Options: []api.Options{{Name: "status", Names: []string{"single", "joint", "widow"}}, {Name: "size", Names: []string{"small", "big"}}},
		Tables:  []api.Table{{Name: "rates", Bands: []api.Band{{From: 0, Rate: 100000}, {From: 1100000, Rate: 125000}, {From: 1100001, Rate: 0}}}, {Name: "flat", Bands: []api.Band{{From: 0, Rate: 5}}}},
		Groups:  []api.Group{{Name: "kid", Rows: 3}, {Name: "slip", Rows: 2}},
		Lines: []api.Line{
			input("c", api.Cents, -1, -1), input("n", api.Count, -1, -1), input("f", api.Flag, -1, -1), input("d", api.Day, -1, -1), input("o", api.Choice, 0, -1), input("s", api.Choice, 1, -1),
			input("kc", api.Cents, -1, 0), input("kn", api.Count, -1, 0), input("kf", api.Flag, -1, 0), input("kd", api.Day, -1, 0), input("ko", api.Choice, 0, 0),
			input("sc", api.Cents, -1, 1), input("sf", api.Flag, -1, 1),
			{Name: "tax", Type: api.Cents, Options: -1, Group: -1, Must: true, Clauses: []api.Clause{
				{Body: op(api.OpAdd, of(api.OpBracket, 0, line(lineC)), of(api.OpSum, kidC))},
				{Priority: 9, Guarded: true, Guard: op(api.OpEq, line(lineO), choice(0, 1)), Body: cents(0)},
				{Priority: 1, Guarded: true, Guard: line(lineF), Body: op(api.OpTimes, line(lineC), line(lineN))},
			}},
			{Name: "own", Type: api.Flag, Options: -1, Group: 0, Clauses: []api.Clause{
				{Body: op(api.OpLt, line(kidD), line(lineD))},
				{Priority: 4, Guarded: true, Guard: line(kidF), Body: flag(1)},
			}},
			{Name: "pick", Type: api.Choice, Options: 1, Group: -1, Clauses: []api.Clause{{Body: choice(1, 0)}}},
		},
		Checks: []api.Check{
			{Name: "rich", Group: -1, Text: "too much", When: op(api.OpGt, line(lineC), cents(5))},
			{Name: "odd", Hard: true, Group: 0, Text: "not so", When: op(api.OpAnd, line(kidF), op(api.OpNot, line(lineOwn)))},
		},
	}
}

func input(name string, kind, options, group int) api.Line {
	return api.Line{Name: name, Input: true, Type: kind, Options: options, Group: group}
}

// named: names that are unlike for unlike numbers below 676.
func named(lead string, n int) string {
	return lead + string([]byte{byte('a' + n/26), byte('a' + n%26)})
}

func op(o int, args ...api.Expr) api.Expr          { return api.Expr{Op: o, Args: args} }
func of(o int, n int64, args ...api.Expr) api.Expr { return api.Expr{Op: o, Num: n, Args: args} }
func line(n int64) api.Expr                        { return of(api.OpLine, n) }
func cents(n int64) api.Expr                       { return of(api.OpCents, n) }
func count(n int64) api.Expr                       { return of(api.OpCount, n) }
func flag(n int64) api.Expr                        { return of(api.OpFlag, n) }
func day(n int64) api.Expr                         { return of(api.OpDay, n) }
func choice(table, option int64) api.Expr {
	return api.Expr{Op: api.OpChoice, Num: option, Den: table}
}
func scale(e api.Expr, num, den int64, mode int) api.Expr {
	return api.Expr{Op: api.OpScale, Num: num, Den: den, Mode: mode, Args: []api.Expr{e}}
}

// repeat: an operator around an expression, some times.
func repeat(o, times int, e api.Expr) api.Expr {
	for range times {
		e = op(o, e)
	}
	return e
}

// sums: a sum of cents that has so many nodes, at most 259 of them.
func sums(nodes int) api.Expr {
	if nodes < 3 {
		return repeat(api.OpNeg, nodes-1, line(lineC))
	}
	e := api.Expr{Op: api.OpAdd}
	for left, args := nodes-1, min(6, nodes-1); args > 0; args-- {
		e.Args = append(e.Args, sums(left/args))
		left -= left / args
	}
	return e
}

func nodes(e api.Expr) int {
	n := 1
	for _, a := range e.Args {
		n += nodes(a)
	}
	return n
}

// spot: a place in a pack; a path, if there is one, belongs to an expression.
func spot(part, at, clause int, path ...int) api.Spot {
	return api.Spot{Part: part, At: at, Clause: clause, Path: path}
}

func sameSpot(a, b api.Spot) bool {
	return a.Part == b.Part && a.At == b.At && a.Clause == b.Clause && slices.Equal(a.Path, b.Path)
}

// checks asks for what Check tells of a pack.
func checks(t *testing.T, what string, p api.Pack, want api.Spot, errno api.Errno) {
	t.Helper()
	if s, e := types.Check(p); e != errno || !sameSpot(s, want) {
		t.Errorf("%s: %+v, error %d, want %+v, error %d", what, s, e, want, errno)
	}
}

func wellFormed(t *testing.T, what string, p api.Pack) {
	t.Helper()
	checks(t, what, p, api.Spot{}, api.OK)
}

// is asks for an expression's kind.
func is(t *testing.T, p api.Pack, group int, e api.Expr, kind, options int) {
	t.Helper()
	if k, o, path, errno := types.Type(p, group, e); k != kind || o != options || len(path) != 0 || errno != api.OK {
		t.Errorf("Type(%d, %+v): %d, %d, %v, error %d, want %d, %d", group, e, k, o, path, errno, kind, options)
	}
}

// isNot asks for an expression's fault, and that the answer has nothing else.
func isNot(t *testing.T, p api.Pack, group int, e api.Expr, errno api.Errno, path ...int) {
	t.Helper()
	if k, o, at, got := types.Type(p, group, e); k != 0 || o != -1 || !slices.Equal(at, path) || got != errno {
		t.Errorf("Type(%d, %+v): %d, %d, %v, error %d, want %v, error %d", group, e, k, o, at, got, path, errno)
	}
}

// text tells a pack or expression; nil and empty lists alike.
func text(x any) string { return fmt.Sprintf("%+v", x) }

// bend: a pack that was well formed and has one fault.
type bend struct {
	what  string
	does  func(p *api.Pack)
	spot  api.Spot
	errno api.Errno
}

func bends(t *testing.T, l []bend) {
	t.Helper()
	for _, b := range l {
		p := sample()
		b.does(&p)
		checks(t, b.what, p, b.spot, b.errno)
	}
}
