package eval_test

import (
	"fmt"
	"testing"

	"levy/api"
	"levy/types"
)

// The lines of the bench, all inputs: of no group (their cells have the same numbers), then of the group kid, three rows each (their cells begin at 12, 15, 18, 21).
const (
	lineC, lineC2, lineC3, lineN, lineN2, lineF, lineF2, lineF3, lineD, lineD2, lineO, lineO2 = 0, 1, 2, 3, 4, 5, 6, 7, 8, 9, 10, 11

	kidC, kidN, kidF, kidD = 12, 13, 14, 15
)

// The line that has the expression, its cell, and the first flag of kid.
const lineX, cellX, flags = 16, 24, 25

// column: the cell of a line of kid at a row.
func column(line, row int) uint32 { return uint32(12 + 3*(line-12) + row) }

// bench: inputs of all kinds, and a line with an expression.
func bench(e api.Expr) api.Pack {
	p := api.Pack{
		Name: "bench", Year: 2024, Groups: []api.Group{{Name: "kid", Rows: 3}},
		Options: []api.Options{{Name: "status", Names: []string{"single", "joint", "widow"}}},
		Tables:  []api.Table{{Name: "flat", Bands: []api.Band{{Rate: 5}}}, {Name: "rates", Bands: []api.Band{{Rate: 100000}, {From: 1000000, Rate: 250000}}}},
	}
	for i, kind := range []int{api.Cents, api.Cents, api.Cents, api.Count, api.Count, api.Flag, api.Flag, api.Flag, api.Day, api.Day, api.Choice, api.Choice} {
		p.Lines = append(p.Lines, input(named("i", i), kind, -1))
	}
	p.Lines[lineO].Options, p.Lines[lineO2].Options = 0, 0
	for i, kind := range []int{api.Cents, api.Count, api.Flag, api.Day} {
		p.Lines = append(p.Lines, input(named("k", i), kind, 0))
	}
	kind, options, _, _ := types.Type(p, -1, e)
	p.Lines = append(p.Lines, computed("x", kind, -1, e))
	p.Lines[lineX].Options = options
	return p
}

// worthy: an expression, what it reads, in its order, and what it is worth then.
type worthy struct {
	e     api.Expr
	reads []api.Read
	want  api.Value
}

// reckons asks for what an expression reads and is worth, as the default of a line.
func reckons(t *testing.T, l ...worthy) {
	t.Helper()
	for _, w := range l {
		tells(t, fmt.Sprintf("%+v, told %v", w.e, w.reads), made(t, bench(w.e)), api.Node{Cell: cellX, Val: w.want, Reads: w.reads})
	}
}

func told(l ...api.Read) []api.Read { return l }

func TestP9_7Constants(t *testing.T) {
	reckons(t,
		worthy{cents(api.MaxCents), nil, cent(api.MaxCents)}, worthy{cents(-5), nil, cent(-5)},
		worthy{count(-api.MaxCount), nil, num(-api.MaxCount)}, worthy{count(7), nil, num(7)},
		worthy{flag(1), nil, yes}, worthy{flag(0), nil, no},
		worthy{day(0), nil, date(0)}, worthy{day(api.MaxDay), nil, date(api.MaxDay)},
		worthy{choice(0, 0), nil, option(0)}, worthy{choice(0, 2), nil, option(2)},
	)
}

func TestP9_7Lines(t *testing.T) {
	for n := range kidC {
		for _, x := range []api.Value{blank, over, zero, needed, outside, wrong, cent(-3), num(3), yes, no, date(3), option(3)} {
			reckons(t, worthy{line(n), told(at(uint32(n), x)), x})
		}
	}
}

// A line of a group reads its own row's cell, of another line of the group and of one of no group.
func TestP9_7LinesOfRows(t *testing.T) {
	p := api.Pack{Name: "r", Year: 2024, Groups: []api.Group{{Name: "one", Rows: 3}, {Name: "two", Rows: 2}}, Lines: []api.Line{
		input("c", api.Cents, -1), input("a", api.Cents, 0), input("b", api.Cents, 1),
		computed("x", api.Cents, 0, op(api.OpAdd, line(1), line(0), sum(2))), computed("y", api.Cents, 1, op(api.OpAdd, sum(1), line(2), line(0))),
	}}
	v := made(t, p) // cells: 0 c; 1 to 3 a; 4, 5 b; 6 to 8 x; 9, 10 y; 11 to 13 and 14, 15 the flags
	for row := range uint32(3) {
		tells(t, "x", v, api.Node{Cell: 6 + row, Val: cent(112), Reads: told(at(11+row, yes), at(1+row, cent(2)), at(0, cent(10)), at(14, yes), at(4, cent(100)), at(15, no))})
	}
	for row := range uint32(2) {
		tells(t, "y", v, api.Node{Cell: 9 + row, Val: cent(136), Reads: told(at(14+row, yes), at(11, yes), at(1, cent(1)), at(12, no), at(13, yes), at(3, cent(5)), at(4+row, cent(30)), at(0, cent(100)))})
	}
}

func TestP9_7AndOrNot(t *testing.T) {
	and, or := op(api.OpAnd, line(lineF), line(lineF2), line(lineF3)), op(api.OpOr, line(lineF), line(lineF2), line(lineF3))
	f := func(l ...api.Value) []api.Read {
		var reads []api.Read
		for i, x := range l {
			reads = append(reads, at(uint32(lineF+i), x))
		}
		return reads
	}
	reckons(t,
		worthy{and, f(yes, yes, yes), yes}, worthy{and, f(no), no}, worthy{and, f(yes, no), no}, worthy{and, f(yes, yes, no), no},
		worthy{or, f(no, no, no), no}, worthy{or, f(yes), yes}, worthy{or, f(no, yes), yes}, worthy{or, f(no, no, yes), yes},
		worthy{op(api.OpNot, line(lineF)), f(yes), no}, worthy{op(api.OpNot, line(lineF)), f(no), yes},
	)
	for _, x := range []struct{ told, want api.Value }{{blank, needed}, {over, over}, {zero, zero}, {wrong, wrong}, {cent(0), wrong}, {num(1), wrong}, {date(0), wrong}, {option(1), wrong}} {
		reckons(t,
			worthy{and, f(x.told), x.want}, worthy{and, f(yes, x.told), x.want}, worthy{and, f(yes, yes, x.told), x.want},
			worthy{or, f(x.told), x.want}, worthy{or, f(no, x.told), x.want}, worthy{or, f(no, no, x.told), x.want},
			worthy{op(api.OpNot, line(lineF)), f(x.told), x.want},
		)
	}
	many := op(api.OpOr, flag(0), flag(0), flag(0), flag(0), flag(0), line(lineF))
	reckons(t, worthy{many, f(yes), yes}, worthy{many, f(blank), needed}, worthy{many, f(no), no})
}

func TestP9_7IfAndElse(t *testing.T) {
	e := op(api.OpIf, line(lineF), line(lineC), line(lineC2))
	for _, x := range []api.Value{blank, over, cent(5), num(5), wrong} {
		reckons(t, worthy{e, told(at(lineF, yes), at(lineC, x)), x}, worthy{e, told(at(lineF, no), at(lineC2, x)), x})
	}
	for _, x := range []struct{ told, want api.Value }{{blank, needed}, {over, over}, {cent(0), wrong}, {num(1), wrong}, {option(1), wrong}} {
		reckons(t, worthy{e, told(at(lineF, x.told)), x.want})
	}
	e = op(api.OpElse, line(lineC), line(lineC2))
	for _, x := range []api.Value{over, needed, cent(5), num(5), no, wrong} {
		reckons(t, worthy{e, told(at(lineC, x)), x})
	}
	for _, x := range []api.Value{blank, over, cent(5), num(5)} {
		reckons(t, worthy{e, told(at(lineC, blank), at(lineC2, x)), x})
	}
	reckons(t, worthy{op(api.OpElse, op(api.OpNeg, line(lineC)), cents(1)), told(at(lineC, blank)), needed})
}

func TestP9_7IsBlank(t *testing.T) {
	for n := range kidC {
		e := op(api.OpIsBlank, line(n))
		reckons(t, worthy{e, told(at(uint32(n), blank)), yes})
		for _, x := range []api.Value{cent(0), num(1), yes, no, date(0), option(0)} {
			reckons(t, worthy{e, told(at(uint32(n), x)), no})
		}
		for _, x := range []api.Value{over, zero, needed, outside, wrong} {
			reckons(t, worthy{e, told(at(uint32(n), x)), x})
		}
	}
}

// rows: what an aggregate reads of a column: of each row its flag and, if it is used, its cell; of rows that aren't told nothing.
func rows(line int, l ...[2]api.Value) []api.Read {
	var reads []api.Read
	for row, x := range l {
		reads = append(reads, at(uint32(flags+row), x[0]))
		if x[0] == yes {
			reads = append(reads, at(column(line, row), x[1]))
		}
	}
	return reads
}

func used(x api.Value) [2]api.Value { return [2]api.Value{yes, x} }

var unused = [2]api.Value{no}

// each aggregate with a column that it takes, and what it is worth of nothing.
func eachAggregate() []worthy {
	return []worthy{
		{e: sum(kidC), want: cent(0)}, {e: sum(kidN), want: num(0)},
		{e: of(api.OpLeast, kidC)}, {e: of(api.OpLeast, kidN)}, {e: of(api.OpLeast, kidD)},
		{e: of(api.OpGreatest, kidC)}, {e: of(api.OpGreatest, kidN)}, {e: of(api.OpGreatest, kidD)},
		{e: of(api.OpAny, kidF), want: no}, {e: of(api.OpAll, kidF), want: yes},
	}
}

func TestP9_7AggregatesInCommon(t *testing.T) {
	for _, a := range eachAggregate() {
		n := int(a.e.Num)
		good := map[int]api.Value{kidC: cent(4), kidN: num(4), kidF: yes, kidD: date(4)}[n]
		other := good
		if a.e.Op == api.OpSum {
			other = val(good.Kind, 8)
		}
		reckons(t,
			worthy{a.e, rows(n, unused, unused, unused), a.want},
			worthy{a.e, rows(n, used(blank), used(blank), used(blank)), a.want},
			worthy{a.e, rows(n, used(blank), unused, used(blank)), a.want},
			worthy{a.e, rows(n, used(good), used(blank), used(good)), other},
			worthy{a.e, rows(n, used(good), unused, used(good)), other},
			worthy{a.e, rows(n, used(blank), used(good), used(good)), other},
		)
		for _, x := range []api.Value{over, zero, needed, outside, wrong} {
			reckons(t,
				worthy{a.e, rows(n, used(x)), x}, worthy{a.e, rows(n, used(good), used(x)), x}, worthy{a.e, rows(n, unused, used(blank), used(x)), x},
				worthy{a.e, rows(n, [2]api.Value{x}), x}, worthy{a.e, rows(n, used(good), [2]api.Value{x}), x}, worthy{a.e, rows(n, unused, unused, [2]api.Value{x}), x},
			)
		}
		reckons(t, worthy{a.e, rows(n, used(good), [2]api.Value{blank}), needed}, worthy{a.e, rows(n, used(good), [2]api.Value{num(1)}), wrong}, worthy{a.e, rows(n, [2]api.Value{cent(0)}), wrong})
	}
}

func TestP9_7Sums(t *testing.T) {
	c, n := sum(kidC), sum(kidN)
	reckons(t,
		worthy{c, rows(kidC, used(cent(1)), used(cent(-5)), used(cent(9))), cent(5)},
		worthy{c, rows(kidC, used(cent(api.MaxCents)), used(cent(1)), used(cent(-1))), cent(api.MaxCents)},
		worthy{c, rows(kidC, used(cent(api.MaxCents)), used(cent(1)), unused), over},
		worthy{n, rows(kidN, used(num(-api.MaxCount)), used(num(-1)), used(num(1))), num(-api.MaxCount)},
		worthy{n, rows(kidN, used(num(-api.MaxCount)), used(num(-1)), used(num(-1))), over},
		// A value of another kind ends no reading.
		worthy{c, rows(kidC, used(num(1)), used(cent(1)), used(cent(2))), wrong},
		worthy{c, rows(kidC, used(num(1)), unused, unused), wrong},
		worthy{c, rows(kidC, used(num(1)), used(num(2)), used(num(3))), wrong},
		worthy{c, rows(kidC, used(yes), used(cent(1)), used(zero)), zero},
		worthy{c, rows(kidC, used(date(1)), used(cent(1)), [2]api.Value{over}), over},
		worthy{n, rows(kidN, used(num(1)), used(cent(1)), used(num(1))), wrong},
	)
}

func TestP9_7LeastAndGreatest(t *testing.T) {
	for _, c := range []struct {
		line int
		of   func(int64) api.Value
	}{{kidC, cent}, {kidN, num}, {kidD, date}} {
		least, greatest := of(api.OpLeast, int64(c.line)), of(api.OpGreatest, int64(c.line))
		for _, l := range [][3]int64{{1, 2, 3}, {3, 2, 1}, {2, 1, 3}, {2, 3, 1}, {1, 1, 3}, {3, 1, 3}} {
			reads := rows(c.line, used(c.of(l[0])), used(c.of(l[1])), used(c.of(l[2])))
			reckons(t, worthy{least, reads, c.of(1)}, worthy{greatest, reads, c.of(3)})
		}
		for _, e := range []api.Expr{least, greatest} {
			reckons(t,
				worthy{e, rows(c.line, unused, used(c.of(5)), unused), c.of(5)},
				// A single value is itself; others of unlike kinds are wrong, behind all rows.
				worthy{e, rows(c.line, unused, used(yes), used(blank)), yes}, worthy{e, rows(c.line, used(option(2)), unused, unused), option(2)},
				worthy{e, rows(c.line, used(yes), used(no), unused), wrong}, worthy{e, rows(c.line, used(cent(1)), used(num(1)), used(date(1))), wrong},
				worthy{e, rows(c.line, used(yes), used(c.of(1)), used(over)), over}, worthy{e, rows(c.line, used(yes), used(no), [2]api.Value{blank}), needed},
			)
		}
	}
	reckons(t, worthy{of(api.OpLeast, kidC), rows(kidC, used(date(9)), used(date(8)), unused), date(8)})
}

func TestP9_7AnyAndAll(t *testing.T) {
	any, all := of(api.OpAny, kidF), of(api.OpAll, kidF)
	for _, l := range [][3]api.Value{{yes, no, no}, {no, yes, no}, {no, no, yes}, {yes, yes, no}, {blank, yes, no}} {
		reads := rows(kidF, used(l[0]), used(l[1]), used(l[2]))
		reckons(t, worthy{any, reads, yes}, worthy{all, reads, no})
	}
	reads := rows(kidF, used(yes), used(yes), used(yes))
	reckons(t, worthy{any, reads, yes}, worthy{all, reads, yes})
	reads = rows(kidF, used(no), used(no), used(no))
	reckons(t, worthy{any, reads, no}, worthy{all, reads, no})
	for _, e := range []api.Expr{any, all} {
		for _, first := range []api.Value{yes, no} { // what isn't a flag ends them where it is read
			for _, x := range []api.Value{cent(1), num(0), date(1), option(1)} {
				reckons(t, worthy{e, rows(kidF, used(first), used(x)), wrong}, worthy{e, rows(kidF, used(x)), wrong})
			}
		}
	}
}

func TestP9_7Used(t *testing.T) {
	e := of(api.OpUsed, 0)
	f := func(l ...api.Value) []api.Read {
		var reads []api.Read
		for row, x := range l {
			reads = append(reads, at(uint32(flags+row), x))
		}
		return reads
	}
	reckons(t,
		worthy{e, f(no, no, no), num(0)}, worthy{e, f(no, yes, no), num(1)}, worthy{e, f(yes, no, yes), num(2)}, worthy{e, f(yes, yes, yes), num(3)},
		worthy{e, f(blank), needed}, worthy{e, f(yes, over), over}, worthy{e, f(no, yes, num(1)), wrong}, worthy{e, f(cent(1)), wrong},
	)
}

// call: an operator that reckons all its arguments, the lines that they read, and what is told and comes out.
type call struct {
	e    api.Expr
	told []api.Value
	want api.Value
}

func (c call) reads(l []api.Value) []api.Read {
	var reads []api.Read
	for i, x := range l {
		reads = append(reads, at(uint32(c.e.Args[i].Num), x))
	}
	return reads
}

func over2(o int) api.Expr { return op(o, line(lineC), line(lineC2)) }

func moded(e api.Expr, den int64, mode int) api.Expr {
	e.Den, e.Mode = den, mode
	return e
}

func strictCalls() []call {
	three := func(o int) api.Expr { return op(o, line(lineC), line(lineC2), line(lineC3)) }
	c, n, d := line(lineC), line(lineN), line(lineD)
	days := func(o int) api.Expr { return op(o, d, line(lineD2)) }
	two := func(a, b int64) []api.Value { return []api.Value{cent(a), cent(b)} }
	return []call{
		{three(api.OpAdd), []api.Value{cent(1), cent(20), cent(300)}, cent(321)},
		{three(api.OpMin), []api.Value{cent(5), cent(2), cent(3)}, cent(2)},
		{three(api.OpMax), []api.Value{cent(1), cent(2), cent(3)}, cent(3)},
		{over2(api.OpSub), two(5, 7), cent(-2)},
		{op(api.OpSub, n, line(lineN2)), []api.Value{num(5), num(1)}, num(4)},
		{op(api.OpNeg, c), []api.Value{cent(5)}, cent(-5)},
		{op(api.OpAbs, c), []api.Value{cent(-5)}, cent(5)},
		{three(api.OpClamp), []api.Value{cent(5), cent(9), cent(1)}, cent(9)},
		{moded(of(api.OpScale, 1, c), 10, api.HalfEven), []api.Value{cent(105)}, cent(10)},
		{moded(of(api.OpScale, 3, c), 7, api.Up), []api.Value{cent(100)}, cent(43)},
		{op(api.OpTimes, c, n), []api.Value{cent(7), num(-3)}, cent(-21)},
		{moded(op(api.OpSplit, c, n), 0, api.Down), []api.Value{cent(100), num(-3)}, cent(-34)},
		{moded(op(api.OpSplit, c, n), 0, api.Inward), []api.Value{cent(100), num(-3)}, cent(-33)},
		{moded(of(api.OpRound, 100, c), 0, api.HalfUp), []api.Value{cent(149)}, cent(100)},
		{moded(of(api.OpRound, 50, c), 0, api.Up), []api.Value{cent(101)}, cent(150)},
		{of(api.OpBracket, 0, c), []api.Value{cent(1000000)}, cent(5)},
		{of(api.OpBracket, 1, c), []api.Value{cent(1000002)}, cent(100001)},
		{over2(api.OpEq), two(5, 7), no}, {over2(api.OpNe), two(5, 7), yes}, {over2(api.OpLt), two(5, 7), yes},
		{over2(api.OpLe), two(7, 7), yes}, {over2(api.OpGt), two(7, 7), no}, {over2(api.OpGe), two(7, 7), yes},
		{op(api.OpEq, line(lineO), line(lineO2)), []api.Value{option(2), option(2)}, yes},
		{op(api.OpYear, d), []api.Value{date(365)}, num(1901)},
		{days(api.OpAge), []api.Value{date(36583), date(36583 + 365)}, num(0)},
		{days(api.OpAge), []api.Value{date(36583), date(36583 + 366)}, num(1)},
		{days(api.OpMonths), []api.Value{date(58), date(0)}, num(-1)},
		{days(api.OpMonths), []api.Value{date(0), date(api.MaxDay)}, num(3599)},
		{days(api.OpDays), []api.Value{date(10), date(5)}, num(-5)},
		{days(api.OpDays), []api.Value{date(0), date(api.MaxDay)}, num(api.MaxDay)},
		{op(api.OpAddMonths, d, n), []api.Value{date(30), num(1)}, date(58)},
		{op(api.OpAddMonths, d, n), []api.Value{date(59), num(-1)}, date(31)},
	}
}

func TestP9_7AllOthers(t *testing.T) {
	seen := map[int]bool{}
	for _, c := range strictCalls() {
		seen[c.e.Op] = true
		reckons(t, worthy{c.e, c.reads(c.told), c.want})
		for i := range c.told {
			for _, x := range []api.Value{over, zero, needed, outside, wrong} {
				reckons(t, worthy{c.e, c.reads(append(c.told[:i:i], x)), x})
			}
			reckons(t, worthy{c.e, c.reads(append(c.told[:i:i], blank)), needed})
		}
	}
	if len(seen) != 23 {
		t.Errorf("%d operators", len(seen))
	}
}

// A value of another kind is looked at behind all arguments.
func TestP9_7AnotherKind(t *testing.T) {
	for _, c := range strictCalls() {
		for i := range c.told {
			for _, x := range []api.Value{cent(1), num(1), yes, date(1), option(1)} {
				if x.Kind == c.told[i].Kind || len(c.told) == 1 && isAmount(c.e.Op) && x.Kind <= api.Count {
					continue
				}
				l := append(append(c.told[:i:i], x), c.told[i+1:]...)
				reckons(t, worthy{c.e, c.reads(l), wrong})
				for j := i + 1; j < len(l); j++ {
					reckons(t, worthy{c.e, c.reads(append(l[:j:j], zero)), zero}, worthy{c.e, c.reads(append(l[:j:j], blank)), needed})
				}
			}
		}
	}
}

// isAmount: whether an operator takes cents and counts alike.
func isAmount(o int) bool { return o == api.OpNeg || o == api.OpAbs }

func TestP9_7Mishaps(t *testing.T) {
	c3 := op(api.OpAdd, line(lineC), line(lineC2), line(lineC3))
	top := cent(api.MaxCents)
	read3 := func(a, b, c api.Value) []api.Read { return told(at(lineC, a), at(lineC2, b), at(lineC3, c)) }
	split := moded(op(api.OpSplit, line(lineC), line(lineN)), 0, api.Up)
	age, later := op(api.OpAge, line(lineD), line(lineD2)), op(api.OpAddMonths, line(lineD), line(lineN))
	reckons(t,
		worthy{c3, read3(top, cent(1), cent(-1)), over}, worthy{c3, read3(cent(1), cent(-1), top), top}, worthy{c3, read3(top, cent(1), num(1)), over}, worthy{c3, read3(top, num(1), cent(1)), wrong},
		worthy{op(api.OpMin, line(lineC), line(lineC2), line(lineC3)), read3(num(1), cent(1), cent(1)), wrong},
		worthy{op(api.OpMin, line(lineC), line(lineC2), line(lineC3)), read3(date(3), date(1), date(2)), date(1)}, // money.Min takes days
		worthy{op(api.OpClamp, line(lineC), line(lineC2), line(lineC3)), read3(date(3), date(1), date(2)), date(2)},
		worthy{split, told(at(lineC, cent(5)), at(lineN, num(0))), zero},
		worthy{op(api.OpTimes, line(lineC), line(lineN)), told(at(lineC, top), at(lineN, num(2))), over},
		worthy{age, told(at(lineD, date(10)), at(lineD2, date(9))), outside}, worthy{age, told(at(lineD, date(10)), at(lineD2, date(10))), num(0)},
		worthy{later, told(at(lineD, date(0)), at(lineN, num(-1))), outside}, worthy{later, told(at(lineD, date(api.MaxDay)), at(lineN, num(1))), outside},
		worthy{later, told(at(lineD, date(5)), at(lineN, num(api.MaxCount))), outside}, worthy{later, told(at(lineD, date(5)), at(lineN, num(-api.MaxCount))), outside},
		worthy{later, told(at(lineD, num(5)), at(lineN, num(api.MaxCount))), wrong}, worthy{age, told(at(lineD, date(10)), at(lineD2, num(9))), wrong},
	)
}

// Arguments are reckoned whole, from the left, each with all below it.
func TestP9_7Nested(t *testing.T) {
	e := op(api.OpAdd, op(api.OpIf, op(api.OpOr, line(lineF), line(lineF2)), op(api.OpTimes, line(lineC), line(lineN)), line(lineC2)), op(api.OpElse, line(lineC3), sum(kidC)), line(lineC2))
	reckons(t,
		worthy{e, told(at(lineF, no), at(lineF2, yes), at(lineC, cent(2)), at(lineN, num(3)), at(lineC3, cent(10)), at(lineC2, cent(100))), cent(116)},
		worthy{e, told(at(lineF, no), at(lineF2, no), at(lineC2, cent(100)), at(lineC3, cent(10))), cent(210)},
		worthy{e, told(at(lineF, yes), at(lineC, cent(2)), at(lineN, blank)), needed},
		worthy{e, append(told(at(lineF, yes), at(lineC, cent(2)), at(lineN, num(1)), at(lineC3, blank)), append(rows(kidC, unused, unused, used(cent(5))), at(lineC2, cent(1)))...), cent(8)},
		worthy{e, append(told(at(lineF, yes), at(lineC, cent(2)), at(lineN, num(1)), at(lineC3, blank)), rows(kidC, used(zero))...), zero},
	)
}
