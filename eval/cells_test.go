package eval_test

import (
	"math"
	"testing"

	"levy/api"
)

func TestP9_4Examples(t *testing.T) {
	v := made(t, example())
	wage := at(0, cent(500000))
	holds(t, "no row", v, inputs(wage), cent(500000), blank, blank, blank, blank, cent(0), no, no)
	holds(t, "nothing at all", v, inputs(), blank, blank, blank, blank, blank, cent(0), no, no)
	holds(t, "a row with a blank", v, inputs(wage, at(6, yes)), cent(500000), blank, blank, needed, blank, needed, yes, no)
	holds(t, "two rows", v, inputs(at(6, yes), at(7, yes), at(1, num(9)), at(2, num(30))), blank, num(9), num(30), cent(200000), cent(0), cent(200000), yes, yes)
	holds(t, "the second row", v, inputs(at(7, yes), at(2, num(16))), blank, blank, num(16), blank, cent(200000), cent(200000), no, yes)
	holds(t, "a blank in the second row", v, inputs(at(6, yes), at(7, yes), at(1, num(17))), blank, num(17), blank, cent(0), needed, needed, yes, yes)
	tells(t, "an unused row", v, api.Node{Cell: 4, Clause: -1, Reads: []api.Read{at(7, no)}})
	tells(t, "a blank in a row", v, api.Node{Cell: 5, Val: needed, Reads: []api.Read{at(6, yes), at(3, needed)}})
	tells(t, "two rows", v, api.Node{Cell: 5, Val: cent(200000), Reads: []api.Read{at(6, yes), at(3, cent(200000)), at(7, yes), at(4, cent(0))}})
	tells(t, "a row", v, api.Node{Cell: 3, Val: cent(200000), Reads: []api.Read{at(6, yes), at(1, num(9))}})
}

func TestP9_4AllKinds(t *testing.T) {
	v := made(t, allKinds())
	in := inputs(at(0, cent(5)), at(1, num(-6)), at(2, no), at(3, date(7)), at(4, option(1)), at(19, yes), at(6, cent(8)), at(8, num(9)), at(10, yes), at(12, date(0)), at(14, option(0)), at(20, yes))
	holds(t, "all kinds", v, in,
		cent(5), num(-6), no, date(7), option(1), blank, cent(8), blank, num(9), blank, yes, blank, date(0), blank, option(0), // the inputs
		cent(5), blank, cent(8), no, yes, yes, blank, yes, no)
	holds(t, "none", v, inputs(), append(make([]api.Value, 18), no, no, no, blank, blank, blank)...)
}

// guarded: a line of six clauses, their priorities in no order, each with a guard of its own. Cells: 0 to 4 the guards; 5 the line.
func guarded() api.Pack {
	p := api.Pack{Name: "g", Year: 2024}
	x := computed("x", api.Cents, -1, cents(100))
	for i, priority := range []int{3, 9, 1, 8, 2} {
		p.Lines = append(p.Lines, input(named("g", i), api.Flag, -1))
		x.Clauses = append(x.Clauses, exception(priority, line(i), cents(int64(100*priority))))
	}
	p.Lines = append(p.Lines, x)
	return p
}

func TestP9_6Guards(t *testing.T) {
	v := made(t, guarded())
	order := []uint32{1, 3, 0, 4, 2} // by priority: 9, 8, 3, 2, 1
	worth := []int64{900, 800, 300, 200, 100}
	var reads []api.Read
	var guards []api.Value
	for i, cell := range order {
		for _, x := range []struct{ told, val api.Value }{{blank, needed}, {over, over}, {wrong, wrong}, {num(1), wrong}, {cent(0), wrong}, {date(1), wrong}, {option(1), wrong}} {
			tells(t, "a guard that is no flag", v, api.Node{Cell: 5, Val: x.val, Clause: -1, Guards: append(guards[:i:i], x.told), Reads: append(reads[:i:i], at(cell, x.told))})
		}
		tells(t, "a guard that is true", v, api.Node{Cell: 5, Val: cent(worth[i]), Clause: int(cell) + 1, Guards: append(guards[:i:i], yes), Reads: append(reads[:i:i], at(cell, yes))})
		reads, guards = append(reads, at(cell, no)), append(guards, no)
	}
	tells(t, "no guard is true", v, api.Node{Cell: 5, Val: cent(100), Guards: guards, Reads: reads})
}

func TestP9_6TheChaptersGuards(t *testing.T) {
	p := api.Pack{Name: "g", Year: 2024, Lines: []api.Line{input("a", api.Flag, -1), input("b", api.Flag, -1), computed("x", api.Cents, -1, cents(100))}}
	p.Lines[2].Clauses = append(p.Lines[2].Clauses, exception(2, line(0), cents(200)), exception(7, line(1), cents(700)))
	v := made(t, p)
	tells(t, "b true", v, api.Node{Cell: 2, Val: cent(700), Clause: 2, Guards: []api.Value{yes}, Reads: []api.Read{at(1, yes)}})
	tells(t, "b false, a blank", v, api.Node{Cell: 2, Val: needed, Clause: -1, Guards: []api.Value{no, blank}, Reads: []api.Read{at(1, no), at(0, blank)}})
	holds(t, "b true", v, inputs(at(1, yes)), blank, yes, cent(700))
	holds(t, "b false", v, inputs(at(1, no)), blank, no, needed)
	holds(t, "a alone", v, inputs(at(0, yes)), yes, blank, needed)
	holds(t, "both false", v, inputs(at(0, no), at(1, no)), no, no, cent(100))
}

// rowed: a line with an exception and a check, both in a group, which read an input of no group and one of the group. Cells: 0 c; 1, 2 f; 3, 4 x; 5, 6 the flags; 7, 8 the check.
func rowed() api.Pack {
	p := api.Pack{Name: "r", Year: 2024, Groups: []api.Group{{Name: "kid", Rows: 2}}, Lines: []api.Line{
		input("c", api.Cents, -1), input("f", api.Flag, 0), computed("x", api.Cents, 0, line(0)),
	}}
	p.Lines[2].Clauses = append(p.Lines[2].Clauses, exception(5, line(1), cents(5)))
	p.Checks = []api.Check{{Name: "k", Group: 0, When: op(api.OpNot, line(1)), Text: "so"}}
	return p
}

func TestP9_6Rows(t *testing.T) {
	v := made(t, rowed())
	for row := range uint32(2) {
		flag, f, x, check := 5+row, 1+row, 3+row, 7+row
		for _, c := range []struct{ told, val api.Value }{{no, blank}, {blank, needed}, {zero, zero}, {num(1), wrong}, {cent(0), wrong}, {wrong, wrong}} {
			tells(t, "a line of a row whose flag isn't true", v, api.Node{Cell: x, Val: c.val, Clause: -1, Reads: []api.Read{at(flag, c.told)}})
			tells(t, "a check of such a row", v, api.Node{Cell: check, Val: c.val, Clause: -1, Reads: []api.Read{at(flag, c.told)}})
		}
		tells(t, "a default", v, api.Node{Cell: x, Val: cent(7), Clause: 0, Guards: []api.Value{no}, Reads: []api.Read{at(flag, yes), at(f, no), at(0, cent(7))}})
		tells(t, "a blank default", v, api.Node{Cell: x, Val: blank, Clause: 0, Guards: []api.Value{no}, Reads: []api.Read{at(flag, yes), at(f, no), at(0, blank)}})
		tells(t, "a default that is a fault", v, api.Node{Cell: x, Val: over, Clause: 0, Guards: []api.Value{no}, Reads: []api.Read{at(flag, yes), at(f, no), at(0, over)}})
		tells(t, "an exception", v, api.Node{Cell: x, Val: cent(5), Clause: 1, Guards: []api.Value{yes}, Reads: []api.Read{at(flag, yes), at(f, yes)}})
		tells(t, "a blank guard", v, api.Node{Cell: x, Val: needed, Clause: -1, Guards: []api.Value{blank}, Reads: []api.Read{at(flag, yes), at(f, blank)}})
		tells(t, "a check", v, api.Node{Cell: check, Val: yes, Clause: -1, Reads: []api.Read{at(flag, yes), at(f, no)}})
		tells(t, "a check that is a fault", v, api.Node{Cell: check, Val: needed, Clause: -1, Reads: []api.Read{at(flag, yes), at(f, blank)}})
	}
}

func TestP9_6ChecksWithoutARow(t *testing.T) {
	p := turned(func(p *api.Pack) {
		p.Checks = []api.Check{{Name: "k", Group: -1, When: op(api.OpLt, line(0), line(3)), Text: "so"}, {Name: "l", Group: -1, When: flag(1), Text: "so"}}
	})
	v := made(t, p)
	tells(t, "a check", v, api.Node{Cell: 8, Val: yes, Clause: -1, Reads: []api.Read{at(0, cent(1)), at(5, cent(2))}})
	tells(t, "a check that reads nothing", v, api.Node{Cell: 9, Val: yes, Clause: -1})
	p.Lines = append(p.Lines, input("f", api.Flag, -1))
	p.Checks[1].When = line(4)
	v = made(t, p)
	tells(t, "a check that is a bare reference", v, api.Node{Cell: 10, Val: blank, Clause: -1, Reads: []api.Read{at(6, blank)}})
}

func TestP9_6WhatIsNotValidCountsAsWrong(t *testing.T) {
	p := turned(func(p *api.Pack) { p.Lines[3].Clauses[0].Body = op(api.OpElse, line(0), sum(2)) })
	v := made(t, p)
	for _, x := range []api.Value{
		{Kind: api.Blank, Num: 1}, {Kind: api.Blank, Num: -1}, cent(api.MaxCents + 1), cent(math.MinInt64), num(api.MaxCount + 1), val(api.Flag, 2), val(api.Flag, -1),
		date(-1), date(api.MaxDay + 1), option(api.MaxOptions), option(-1), fault(0), fault(6), fault(-1), {Kind: 7}, {Kind: -1}, {Kind: math.MaxInt, Num: math.MaxInt64}, {Kind: math.MinInt},
	} {
		asked := 0
		n := v.With(5, func(uint32) api.Value { asked++; return x })
		if want := (api.Node{Cell: 5, Val: wrong, Reads: []api.Read{at(0, wrong)}}); !sameNode(n, want) || asked != 1 {
			t.Errorf("told %v: %+v, %d calls", x, n, asked)
		}
		n = v.With(3, func(uint32) api.Value { return x })
		if want := (api.Node{Cell: 3, Val: wrong, Clause: -1, Reads: []api.Read{at(6, wrong)}}); !sameNode(n, want) {
			t.Errorf("told %v: %+v", x, n)
		}
	}
}

// A line of row 1 that sums its own group's column reads its row's flag first, and not again.
func TestP9_6NothingIsReadTwice(t *testing.T) {
	p := api.Pack{Name: "s", Year: 2024, Groups: []api.Group{{Name: "kid", Rows: 3}}, Lines: []api.Line{
		input("a", api.Cents, 0), computed("x", api.Cents, 0, op(api.OpAdd, sum(0), line(0), of(api.OpLeast, 0), line(0))),
	}}
	v := made(t, p) // cells: 0 to 2 a; 3 to 5 x; 6 to 8 the flags
	tells(t, "row 1", v, api.Node{Cell: 4, Val: cent(7 + 2 + 1 + 2), Reads: []api.Read{at(7, yes), at(6, yes), at(0, cent(1)), at(1, cent(2)), at(8, yes), at(2, cent(4))}})
	tells(t, "row 1, row 0 unused", v, api.Node{Cell: 4, Val: cent(6 + 2 + 2 + 2), Reads: []api.Read{at(7, yes), at(6, no), at(1, cent(2)), at(8, yes), at(2, cent(4))}})
	tells(t, "row 2", v, api.Node{Cell: 5, Val: needed, Reads: []api.Read{at(8, yes), at(6, no), at(7, no), at(2, blank)}})
	next := int64(0)
	n := v.With(4, func(cell uint32) api.Value { // a reader that tells another value each time
		if next++; cell >= 6 {
			return yes
		}
		return cent(next)
	})
	want := api.Node{Cell: 4, Val: cent(3 + 4 + 6 + 4 + 3 + 4), Reads: []api.Read{at(7, yes), at(6, yes), at(0, cent(3)), at(1, cent(4)), at(8, yes), at(2, cent(6))}}
	if !sameNode(n, want) {
		t.Errorf("%+v, want %+v", n, want)
	}
}

// A body reads again what a guard has read, and doesn't ask for it.
func TestP9_6GuardsAndBodyShareWhatWasRead(t *testing.T) {
	p := turned(func(p *api.Pack) {
		p.Lines[3].Clauses = append(p.Lines[3].Clauses, exception(4, op(api.OpGt, line(0), sum(2)), op(api.OpSub, line(0), sum(2))))
	})
	v := made(t, p)
	reads := []api.Read{at(0, cent(9)), at(6, yes), at(3, cent(5)), at(7, no)}
	tells(t, "the exception", v, api.Node{Cell: 5, Val: cent(4), Clause: 1, Guards: []api.Value{yes}, Reads: reads})
	reads[0].Seen = cent(2)
	tells(t, "the default", v, api.Node{Cell: 5, Val: cent(5), Clause: 0, Guards: []api.Value{no}, Reads: reads})
}

func TestP9_8InputsAndNoCells(t *testing.T) {
	v := made(t, rowed())
	for _, cell := range []uint32{0, 1, 2, 5, 6, 9, 10, 255, 256, 1 << 31, math.MaxUint32} {
		n := v.With(cell, func(uint32) api.Value { t.Errorf("With(%d) reads", cell); return yes })
		if !sameNode(n, api.Node{Cell: cell, Clause: -1}) {
			t.Errorf("With(%d): %+v", cell, n)
		}
	}
}
