package trace_test

import (
	"math"
	"testing"

	"levy/api"
)

func TestP13_4Examples(t *testing.T) {
	x := explained(t, memo(t, example(), nine()...), 5)
	prints(t, example(), x, "credit.1 = 2000.00 by default; used kid.1 = yes; age.1 = 9\n", "total = 2000.00 by default; used kid.1 = yes; credit.1 = 2000.00; used kid.2 = no\n")
}

func TestP13_4NoNodes(t *testing.T) {
	prints(t, example(), api.Trace{})
	prints(t, example(), api.Trace{Nodes: []api.Node{}})
}

func TestP13_4Names(t *testing.T) {
	p := allKinds()
	for cell, name := range map[uint32]string{
		0: "c", 4: "o", 5: "kc.1", 6: "kc.2", 13: "ko.1", 14: "ko.2", 15: "x", 16: "kx.1", 17: "kx.2",
		18: "used kid.1", 19: "used kid.2", 20: "used slip.1", 21: "check one.1", 22: "check one.2", 23: "check two",
		24: "cell 24", 25: "cell 25", 256: "cell 256", 1 << 31: "cell 2147483648", math.MaxUint32: "cell 4294967295",
	} {
		prints(t, p, traced(node(cell, blank, -1)), name+" = -\n")
		prints(t, p, traced(node(0, yes, -1, at(cell, no))), "c = yes; "+name+" = no\n")
	}
}

// A group of as many rows as may be: rows are told from 1 on.
func TestP13_4Rows(t *testing.T) {
	p := greatest()
	prints(t, p, traced(node(7, blank, -1)), "laa.8 = -\n")
	prints(t, p, traced(node(8, blank, -1)), "lab.1 = -\n")
	prints(t, p, traced(node(255, yes, -1)), "used gad.8 = yes\n")
	prints(t, p, traced(node(256, yes, -1)), "cell 256 = yes\n")
}

func TestP13_4Clauses(t *testing.T) {
	for clause, text := range map[int]string{
		0: " by default", 1: " by clause 1", 5: " by clause 5", 12: " by clause 12", math.MaxInt64: " by clause 9223372036854775807",
		-1: "", -2: "", math.MinInt64: "",
	} {
		n := node(15, cent(5), clause)
		prints(t, allKinds(), traced(n), "x = 0.05"+text+"\n")
		prints(t, allKinds(), traced(asking(n, yes, no, blank)), "x = 0.05"+text+"\n")
		n.Reads = []api.Read{at(0, cent(5)), at(18, yes)}
		prints(t, allKinds(), traced(n, n), "x = 0.05"+text+"; c = 0.05; used kid.1 = yes\n", "x = 0.05"+text+"; c = 0.05; used kid.1 = yes\n")
	}
}

// values: the texts of values that don't hang on the cell.
func values() map[api.Value]string {
	return map[api.Value]string{
		blank: "-", yes: "yes", no: "no",
		cent(0): "0.00", cent(5): "0.05", cent(-5): "-0.05", cent(100): "1.00", cent(-12345): "-123.45", cent(api.MaxCents): "99999999999.99", cent(-api.MaxCents): "-99999999999.99",
		num(0): "0", num(7): "7", num(-7): "-7", num(api.MaxCount): "1000000000", num(-api.MaxCount): "-1000000000",
		date(0): "1900-01-01", date(36583): "2000-02-29", date(api.MaxDay): "2199-12-31",
		fault(api.Over): "over", fault(api.Zero): "zero", fault(api.Needed): "needed", fault(api.Range): "range", fault(api.Wrong): "wrong",
		val(api.Blank, 1): "?", val(api.Blank, -1): "?", cent(api.MaxCents + 1): "?", cent(-api.MaxCents - 1): "?", cent(math.MinInt64): "?",
		num(api.MaxCount + 1): "?", num(-api.MaxCount - 1): "?", val(api.Flag, 2): "?", val(api.Flag, -1): "?",
		date(-1): "?", date(api.MaxDay + 1): "?", date(math.MaxInt64): "?", fault(0): "?", fault(6): "?", fault(-1): "?",
		option(-1): "?", option(api.MaxOptions): "?", option(math.MaxInt64): "?", option(math.MinInt64): "?",
		val(7, 0): "?", val(7, 1): "?", val(-1, 0): "?", val(math.MaxInt, 3): "?", val(math.MinInt, 3): "?",
	}
}

// A value's text is the same at every cell, also at one that can't hold it.
func TestP13_4Values(t *testing.T) {
	p := allKinds()
	for v, text := range values() {
		for cell := range uint32(26) {
			name := modelOf(t, p).name(cell)
			prints(t, p, traced(node(cell, v, -1, at(cell, v))), name+" = "+text+"; "+name+" = "+text+"\n")
		}
	}
}

// An option has its name by the table of its own line, where that has it.
func TestP13_4Options(t *testing.T) {
	p := allKinds() // of two tables the lines o and ko have the second one, of two options
	p.Lines = append(p.Lines, computed("pick", api.Choice, -1, choice(0, 3)))
	p.Lines[12].Options = 0
	at12 := func(v api.Value) api.Trace { return traced(node(18, v, 0, at(4, v), at(14, v))) }
	prints(t, p, at12(option(0)), "pick = a by default; o = single; ko.2 = single\n")
	prints(t, p, at12(option(1)), "pick = b by default; o = joint; ko.2 = joint\n")
	prints(t, p, at12(option(2)), "pick = c by default; o = option 2; ko.2 = option 2\n")
	prints(t, p, at12(option(3)), "pick = d by default; o = option 3; ko.2 = option 3\n")
	prints(t, p, at12(option(4)), "pick = option 4 by default; o = option 4; ko.2 = option 4\n")
	prints(t, p, at12(option(7)), "pick = option 7 by default; o = option 7; ko.2 = option 7\n")
	prints(t, p, at12(option(8)), "pick = ? by default; o = ?; ko.2 = ?\n")
	for _, cell := range []uint32{0, 1, 2, 3, 5, 7, 9, 11, 15, 17, 19, 20, 21, 22, 23, 24, 25, math.MaxUint32} {
		name := modelOf(t, p).name(cell)
		prints(t, p, traced(node(cell, option(1), -1, at(cell, option(0)))), name+" = option 1; "+name+" = option 0\n")
	}
}

// What stands in a node needn't be so: Print writes it as it is.
func TestP13_4WhateverATraceSays(t *testing.T) {
	x := traced(node(5, yes, 2, at(5, num(-3)), at(5, num(-3)), at(99, wrong)), node(0, date(58), 0), node(99, option(7), -9))
	prints(t, example(), x, "total = yes by clause 2; total = -3; total = -3; cell 99 = wrong\n", "wage = 1900-02-28 by default\n", "cell 99 = option 7\n")
}
