package incr_test

import (
	"math"
	"testing"

	"levy/api"
)

// The chapter's examples, as they stand there.
func TestP10_5Examples(t *testing.T) {
	m := made(t, example())
	dirty(t, m, 3, 4, 5)
	get(t, m, 5, cent(0), 1)
	last(t, m, api.Node{Cell: 5, Val: cent(0), Reads: []api.Read{at(6, no), at(7, no)}})
	dirty(t, m, 3, 4)
	get(t, m, 5, cent(0), 0)
	set(t, m, 6, yes, true)
	dirty(t, m, 3, 4, 5)
	get(t, m, 5, needed, 2)
	evals(t, m, 0, 0, 0, 1, 0, 2, 0, 0)
	set(t, m, 6, yes, false)
	set(t, m, 1, num(9), true)
	get(t, m, 5, cent(200000), 2)
	set(t, m, 1, num(10), true)
	dirty(t, m, 3, 4, 5)
	get(t, m, 5, cent(200000), 1)
	evals(t, m, 0, 0, 0, 3, 0, 3, 0, 0)
	dirty(t, m, 4)
	set(t, m, 0, cent(1), true)
	dirty(t, m, 4)
	refuses(t, m, 3, cent(1), api.ErrIncrInput)
	refuses(t, m, 9, blank, api.ErrIncrCell)
	loadRefuses(t, m, 2, api.ErrIncrInput, at(6, yes), at(1, num(10)))
	load(t, m, 1, at(1, num(10)), at(6, yes))
	get(t, m, 0, blank, 0)
}

func TestP10_4InputsAndNoCells(t *testing.T) {
	m := made(t, allKinds())
	load(t, m, 4, at(0, cent(5)), at(8, num(7)), at(14, option(1)), at(20, yes))
	was := text(m)
	for _, x := range []api.Read{at(0, cent(5)), at(1, blank), at(8, num(7)), at(7, blank), at(14, option(1)), at(18, no), at(19, no), at(20, yes)} {
		get(t, m, x.Cell, x.Seen, 0)
	}
	for _, cell := range []uint32{24, 25, 255, 256, 1 << 31, math.MaxUint32} {
		if x, n, e := m.Get(cell); x != blank || n != 0 || e != api.ErrIncrCell {
			t.Errorf("Get(%d): %v, %d, error %d", cell, x, n, e)
		}
	}
	if text(m) != was {
		t.Errorf("%s, was %s", text(m), was)
	}
}

func TestP10_4LinesAndChecks(t *testing.T) {
	m := made(t, allKinds())
	load(t, m, 5, at(0, cent(5)), at(2, yes), at(6, cent(8)), at(9, no), at(19, yes))
	get(t, m, 15, cent(5), 1)
	get(t, m, 16, blank, 1)
	get(t, m, 17, cent(8), 1)
	get(t, m, 21, blank, 1)
	get(t, m, 22, blank, 1)
	get(t, m, 23, yes, 1)
	dirty(t, m)
	set(t, m, 10, yes, true)
	get(t, m, 22, yes, 1)
	last(t, m, api.Node{Cell: 22, Val: yes, Clause: -1, Reads: []api.Read{at(19, yes), at(10, yes)}})
	last(t, m, api.Node{Cell: 21, Val: blank, Clause: -1, Reads: []api.Read{at(18, no)}})
	last(t, m, api.Node{Cell: 17, Val: cent(8), Clause: 0, Reads: []api.Read{at(19, yes), at(6, cent(8))}})
}

// A cell without reads is evaluated once, and is never dirty again.
func TestP10_5Constants(t *testing.T) {
	m := made(t, flat(input("a", api.Cents, -1), computed("k", api.Cents, -1, cents(7)), computed("x", api.Cents, -1, op(api.OpAdd, line(0), line(1)))))
	dirty(t, m, 1, 2)
	get(t, m, 2, needed, 1)
	dirty(t, m, 1)
	set(t, m, 0, cent(1), true)
	dirty(t, m, 1, 2)
	get(t, m, 2, cent(8), 2)
	last(t, m, api.Node{Cell: 1, Val: cent(7)})
	set(t, m, 0, cent(2), true)
	dirty(t, m, 2)
	get(t, m, 2, cent(9), 1)
	evals(t, m, 0, 1, 3)
}

// chain: a, then each line the one ahead of it, the first of them cut down to at most 10.00.
func chain(many int) api.Pack {
	p := flat(input("a", api.Cents, -1), computed("cut", api.Cents, -1, op(api.OpMin, line(0), cents(1000))))
	for i := 2; i < many; i++ {
		p.Lines = append(p.Lines, computed(named("x", i), api.Cents, -1, op(api.OpNeg, line(i-1))))
	}
	return p
}

// Where a value comes out as it was, nothing behind it is evaluated, and all of it is clean.
func TestP10_5WhatComesOutTheSame(t *testing.T) {
	m := made(t, chain(api.MaxLines))
	load(t, m, 1, at(0, cent(5000)))
	get(t, m, 47, cent(1000), 47)
	for n := range int64(10) {
		set(t, m, 0, cent(6000+n), true)
		get(t, m, 47, cent(1000), 1)
		dirty(t, m)
	}
	set(t, m, 0, cent(10), true)
	get(t, m, 20, cent(-10), 20)
	set(t, m, 0, cent(7000), true)
	get(t, m, 47, cent(1000), 20) // the first twenty anew; those behind them had seen 10.00
	set(t, m, 0, blank, true)
	get(t, m, 47, needed, 47)
	set(t, m, 0, cent(0), true)
	get(t, m, 10, cent(0), 10)
	set(t, m, 0, blank, true)
	get(t, m, 47, needed, 10)
	evals(t, m, 0, 16)
}

// A cell without a last evaluation is evaluated; one that is dirty is looked at in the order of its reads, up to the first that is another thing.
func TestP10_5TheOrderOfReads(t *testing.T) {
	m := made(t, flat(
		input("f", api.Flag, -1), input("a", api.Cents, -1), input("b", api.Cents, -1),
		computed("one", api.Cents, -1, op(api.OpNeg, line(1))), computed("two", api.Cents, -1, op(api.OpNeg, line(2))),
		computed("x", api.Cents, -1, op(api.OpIf, line(0), op(api.OpAdd, line(3), line(4)), line(4))),
	))
	load(t, m, 3, at(0, yes), at(1, cent(1)), at(2, cent(2)))
	get(t, m, 5, cent(-3), 3)
	last(t, m, api.Node{Cell: 5, Val: cent(-3), Reads: []api.Read{at(0, yes), at(3, cent(-1)), at(4, cent(-2))}})

	load(t, m, 3, at(0, no), at(1, cent(10)), at(2, cent(20)))
	get(t, m, 5, cent(-20), 2) // f is another thing: nobody looks at one
	dirty(t, m, 3)
	last(t, m, api.Node{Cell: 5, Val: cent(-20), Reads: []api.Read{at(0, no), at(4, cent(-20))}})
	last(t, m, api.Node{Cell: 3, Val: cent(-1), Reads: []api.Read{at(1, cent(1))}})

	load(t, m, 1, at(0, no), at(1, cent(11)), at(2, cent(20)))
	dirty(t, m, 3, 5)
	get(t, m, 5, cent(-20), 0) // one isn't among its reads: it stays dirty
	dirty(t, m, 3)

	load(t, m, 2, at(0, yes), at(1, cent(1)), at(2, cent(20)))
	get(t, m, 5, cent(-21), 1) // one has seen 1 the last time: it isn't evaluated
	dirty(t, m)
	evals(t, m, 0, 0, 0, 1, 2, 3)

	load(t, m, 1, at(0, yes), at(2, cent(20)))
	get(t, m, 5, needed, 2)
	last(t, m, api.Node{Cell: 5, Val: needed, Reads: []api.Read{at(0, yes), at(3, needed)}})
	set(t, m, 2, cent(30), true)
	get(t, m, 5, needed, 0) // two isn't read behind a fault
	dirty(t, m, 4)
}

// Guards are read ahead of bodies, from the highest priority down.
func TestP10_5Guards(t *testing.T) {
	x := computed("x", api.Cents, -1, line(2))
	x.Clauses = append(x.Clauses, exception(1, line(0), line(3)), exception(5, op(api.OpGt, line(3), cents(100)), cents(7)))
	m := made(t, flat(input("f", api.Flag, -1), input("a", api.Cents, -1), computed("low", api.Cents, -1, line(1)), computed("high", api.Cents, -1, line(1)), x))
	load(t, m, 2, at(0, no), at(1, cent(50)))
	get(t, m, 4, cent(50), 3)
	last(t, m, api.Node{Cell: 4, Val: cent(50), Clause: 0, Guards: []api.Value{no, no}, Reads: []api.Read{at(3, cent(50)), at(0, no), at(2, cent(50))}})
	set(t, m, 1, cent(101), true)
	get(t, m, 4, cent(7), 2)
	last(t, m, api.Node{Cell: 4, Val: cent(7), Clause: 2, Guards: []api.Value{yes}, Reads: []api.Read{at(3, cent(101))}})
	dirty(t, m, 2)
	set(t, m, 0, yes, true)
	dirty(t, m, 2, 4)
	get(t, m, 4, cent(7), 0)
	set(t, m, 1, cent(60), true)
	get(t, m, 4, cent(60), 2)
	last(t, m, api.Node{Cell: 4, Val: cent(60), Clause: 1, Guards: []api.Value{no, yes}, Reads: []api.Read{at(3, cent(60)), at(0, yes)}})
	set(t, m, 0, blank, true)
	get(t, m, 4, needed, 1)
	last(t, m, api.Node{Cell: 4, Val: needed, Clause: -1, Guards: []api.Value{no, blank}, Reads: []api.Read{at(3, cent(60)), at(0, blank)}})
	get(t, m, 2, cent(60), 1)
}

// While a cell's reads are looked at, some of them are evaluated, though the cell itself then isn't.
func TestP10_5ReadsThatAreEvaluated(t *testing.T) {
	half := func(n int) api.Expr {
		return api.Expr{Op: api.OpRound, Num: 100, Mode: api.Down, Args: []api.Expr{line(n)}}
	}
	m := made(t, flat(
		input("a", api.Cents, -1), input("b", api.Cents, -1),
		computed("one", api.Cents, -1, half(0)), computed("two", api.Cents, -1, half(1)), computed("x", api.Cents, -1, op(api.OpAdd, line(2), line(3))),
		computed("y", api.Cents, -1, op(api.OpNeg, line(4))),
	))
	load(t, m, 2, at(0, cent(150)), at(1, cent(250)))
	get(t, m, 5, cent(-300), 4)
	load(t, m, 2, at(0, cent(199)), at(1, cent(200)))
	get(t, m, 5, cent(-300), 2)
	evals(t, m, 0, 0, 2, 2, 1, 1)
	load(t, m, 2, at(0, cent(150)), at(1, cent(300)))
	get(t, m, 5, cent(-400), 4)
	load(t, m, 2, at(0, cent(250)), at(1, cent(200)))
	get(t, m, 5, cent(-400), 3) // x is evaluated, and comes out as it was
	evals(t, m, 0, 0, 4, 4, 3, 2)
	load(t, m, 1, at(0, cent(300)), at(1, cent(200)))
	set(t, m, 1, cent(500), true)
	get(t, m, 4, cent(800), 3)
	get(t, m, 5, cent(-800), 1)
	dirty(t, m)
}

// Rows: a flag that changes is read ahead of the column.
func TestP10_5Rows(t *testing.T) {
	m := made(t, example())
	load(t, m, 4, at(1, num(9)), at(2, num(30)), at(6, yes), at(7, yes))
	get(t, m, 5, cent(200000), 3)
	last(t, m, api.Node{Cell: 5, Val: cent(200000), Reads: []api.Read{at(6, yes), at(3, cent(200000)), at(7, yes), at(4, cent(0))}})
	load(t, m, 2, at(1, num(20)), at(2, num(30)), at(7, yes))
	get(t, m, 5, cent(0), 1)
	dirty(t, m, 3)
	get(t, m, 3, blank, 1)
	set(t, m, 6, yes, true)
	get(t, m, 5, cent(0), 2)
	set(t, m, 1, blank, true)
	set(t, m, 2, blank, true)
	get(t, m, 5, needed, 2)
	dirty(t, m, 4)
	set(t, m, 7, no, true)
	get(t, m, 5, needed, 0)
	dirty(t, m, 4)
}

// Each line reads the two ahead of it: whoever brings a cell up to date more than once doesn't end here.
func TestP10_5EachCellOnce(t *testing.T) {
	p := flat(input("a", api.Cents, -1), computed("b", api.Cents, -1, op(api.OpMin, line(0), cents(1))))
	for i := 2; i < api.MaxLines; i++ {
		p.Lines = append(p.Lines, computed(named("x", i), api.Cents, -1, op(api.OpMax, op(api.OpNeg, line(i-2)), line(i-1), line(0))))
	}
	m := made(t, p)
	load(t, m, 1, at(0, cent(5)))
	get(t, m, 47, cent(5), 47)
	set(t, m, 0, cent(6), true)
	get(t, m, 47, cent(6), 47)
	set(t, m, 0, cent(7), true)
	set(t, m, 0, cent(6), true)
	get(t, m, 47, cent(6), 0)
	dirty(t, m)
	get(t, m, 46, cent(6), 0)
}
