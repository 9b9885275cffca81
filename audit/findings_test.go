package audit_test

import (
	"math"
	"slices"
	"testing"

	"levy/api"
)

func TestExample1(t *testing.T) {
	a := made(t, example())
	r := reads(blank, blank, blank, blank, blank, cent(0), no, no, needed)
	unsure, missing := ofCheck(api.RuleUnsure, true, 0, 0, needed, "too much"), ofLine(api.RuleMissing, 0, 0, blank, "wage")
	if l := a.Run(r.read); !slices.Equal(l, []api.Finding{unsure, missing}) {
		t.Errorf("Run: %+v", l)
	}
	r.wants(t, "Run", 8, 0, 6, 7, 5)
	if f, ok := a.First(r.read); f != unsure || !ok {
		t.Errorf("First: %+v, %t", f, ok)
	}
	r.wants(t, "First", 8)
	if a.May(r.read) {
		t.Error("May")
	}
	r.wants(t, "May", 8)
}

func TestExample2(t *testing.T) {
	vals := []api.Value{cent(200000000), blank, blank, blank, needed, needed, no, yes, yes}
	finds(t, "example 2", made(t, example()), vals,
		ofCheck(api.RuleCheck, true, 0, 0, yes, "too much"), ofLine(api.RuleMissing, 1, 1, blank, "age"),
		ofLine(api.RuleFault, 2, 1, needed, "credit"), ofLine(api.RuleFault, 3, 0, needed, "total"))
}

// The values of the examples are those that eval tells.
func TestP14_10ExamplesByEval(t *testing.T) {
	m, a := modelOf(t, example()), made(t, example())
	first := m.eval.All(inputs())
	if !slices.Equal(first, []api.Value{blank, blank, blank, blank, blank, cent(0), no, no, needed}) {
		t.Errorf("example 1: %v", first)
	}
	second := m.eval.All(inputs(at(0, cent(200000000)), at(7, yes)))
	if !slices.Equal(second, []api.Value{cent(200000000), blank, blank, blank, needed, needed, no, yes, yes}) {
		t.Errorf("example 2: %v", second)
	}
	finds(t, "all is told", a, m.eval.All(inputs(at(0, cent(5)), at(2, num(3)), at(7, yes))))
}

// The numbers that the chapter names.
func TestP14_3Numbers(t *testing.T) {
	if api.RuleCheck != 1 || api.RuleUnsure != 2 || api.RuleMissing != 3 || api.RuleFault != 4 {
		t.Error("other numbers")
	}
}

// others: values that are neither {Flag, 0} nor {Flag, 1}.
func others() []api.Value {
	return []api.Value{
		blank, cent(0), cent(1), num(0), num(1), date(0), date(1), option(0), option(1), over, needed, fault(1), fault(0),
		val(api.Flag, 2), val(api.Flag, -1), val(api.Flag, math.MaxInt64), val(api.Flag, math.MinInt64), val(api.Flag, 1<<32+1),
		val(api.Blank, 1), val(-1, 0), val(-1, 1), val(7, 1), val(math.MaxInt, 1), val(math.MinInt, 0),
	}
}

// A cell of a group counts just if its row's flag is {Flag, 1}.
func TestP14_2Counts(t *testing.T) {
	a := made(t, several())
	bad := but(still(), at(1, blank), at(2, over), at(4, needed), at(6, blank), at(11, yes), at(13, needed), at(16, over))
	first := []api.Finding{ofCheck(api.RuleCheck, true, 1, 0, yes, "h it is"), ofLine(api.RuleMissing, 1, 0, blank, "a"), ofLine(api.RuleFault, 3, 0, needed, "c"), ofCheck(api.RuleUnsure, false, 2, 0, needed, "k it is")}
	second := ofLine(api.RuleFault, 1, 1, over, "a")
	slip := []api.Finding{ofCheck(api.RuleUnsure, true, 4, 0, over, "z it is"), ofLine(api.RuleMissing, 4, 0, blank, "d")}
	finds(t, "all count", a, bad, first[0], slip[0], first[1], slip[1], second, first[2], first[3])
	for _, v := range append(others(), no) {
		finds(t, "row 1 of kid doesn't", a, but(bad, at(7, v)), slip[0], slip[1], second)
		finds(t, "row 2 of kid doesn't", a, but(bad, at(8, v)), first[0], slip[0], first[1], slip[1], first[2], first[3])
		finds(t, "slip doesn't", a, but(bad, at(9, v)), first[0], first[1], second, first[2], first[3])
		finds(t, "none does", a, but(bad, at(7, v), at(8, v), at(9, v)))
	}
}

// Cells of no group count whatever the flags are.
func TestP14_2NoGroup(t *testing.T) {
	a := made(t, several())
	vals := but(still(), at(0, over), at(3, blank), at(7, no), at(8, no), at(9, no), at(10, yes), at(15, yes))
	finds(t, "no row is used", a, vals, ofCheck(api.RuleCheck, true, 3, 0, yes, "g it is"), ofLine(api.RuleMissing, 2, 0, blank, "b"), ofLine(api.RuleFault, 0, 0, over, "free"), ofCheck(api.RuleCheck, false, 0, 0, yes, "s it is"))
}

// A check that is false isn't found, one that is true is, all else can't be told.
func TestP14_3Checks(t *testing.T) {
	a := made(t, several())
	for _, x := range []struct {
		cell       uint32
		index, row int
		hard       bool
		text       string
	}{{10, 0, 0, false, "s it is"}, {11, 1, 0, true, "h it is"}, {12, 1, 1, true, "h it is"}, {13, 2, 0, false, "k it is"}, {14, 2, 1, false, "k it is"}, {15, 3, 0, true, "g it is"}, {16, 4, 0, true, "z it is"}} {
		finds(t, "false", a, but(still(), at(x.cell, no)))
		finds(t, "true", a, but(still(), at(x.cell, yes)), ofCheck(api.RuleCheck, x.hard, x.index, x.row, yes, x.text))
		for _, v := range others() {
			finds(t, "untold", a, but(still(), at(x.cell, v)), ofCheck(api.RuleUnsure, x.hard, x.index, x.row, v, x.text))
		}
	}
}

// A line that must be there and is blank is missing, whatever number stands beside the kind; a line that is a fault is found, input or not, must or not.
func TestP14_3Lines(t *testing.T) {
	a := made(t, several())
	for _, x := range []struct {
		cell       uint32
		index, row int
		must       bool
		name       string
	}{{0, 0, 0, false, "free"}, {1, 1, 0, true, "a"}, {2, 1, 1, true, "a"}, {3, 2, 0, true, "b"}, {4, 3, 0, false, "c"}, {5, 3, 1, false, "c"}, {6, 4, 0, true, "d"}} {
		for _, v := range append(others(), yes, no, cent(-5), val(api.Blank, math.MinInt64), fault(math.MaxInt64), val(api.Blank-api.Fault, 0)) {
			var want []api.Finding
			if v.Kind == api.Blank && x.must {
				want = append(want, ofLine(api.RuleMissing, x.index, x.row, v, x.name))
			}
			if v.Kind == api.Fault {
				want = append(want, ofLine(api.RuleFault, x.index, x.row, v, x.name))
			}
			finds(t, "a line", a, but(still(), at(x.cell, v)), want...)
		}
	}
}

// All questions in their order, where each finds what it can.
func TestP14_4Order(t *testing.T) {
	a := made(t, several())
	vals := but(still(), at(0, over), at(1, blank), at(2, over), at(3, blank), at(4, needed), at(5, over), at(6, blank),
		at(10, yes), at(11, needed), at(12, yes), at(13, yes), at(14, blank), at(15, yes), at(16, blank))
	finds(t, "everything", a, vals,
		ofCheck(api.RuleCheck, true, 1, 1, yes, "h it is"), ofCheck(api.RuleCheck, true, 3, 0, yes, "g it is"),
		ofCheck(api.RuleUnsure, true, 1, 0, needed, "h it is"), ofCheck(api.RuleUnsure, true, 4, 0, blank, "z it is"),
		ofLine(api.RuleMissing, 1, 0, blank, "a"), ofLine(api.RuleMissing, 2, 0, blank, "b"), ofLine(api.RuleMissing, 4, 0, blank, "d"),
		ofLine(api.RuleFault, 0, 0, over, "free"), ofLine(api.RuleFault, 1, 1, over, "a"), ofLine(api.RuleFault, 3, 0, needed, "c"), ofLine(api.RuleFault, 3, 1, over, "c"),
		ofCheck(api.RuleCheck, false, 0, 0, yes, "s it is"), ofCheck(api.RuleCheck, false, 2, 0, yes, "k it is"),
		ofCheck(api.RuleUnsure, false, 2, 1, blank, "k it is"))
}

// Flags are no lines and no checks: what they hold is never found.
func TestP14_3FlagsAreNotFound(t *testing.T) {
	a := made(t, several())
	for _, v := range others() {
		finds(t, "flags", a, but(still(), at(7, v), at(8, v), at(9, v)))
	}
}

// A pack without checks, without groups, without lines that must be there.
func TestP14_4FewQuestions(t *testing.T) {
	p := api.Pack{Name: "one", Year: 2024, Lines: []api.Line{input("a", api.Cents, -1)}}
	a := made(t, p)
	finds(t, "blank", a, []api.Value{blank})
	finds(t, "over", a, []api.Value{over}, ofLine(api.RuleFault, 0, 0, over, "a"))
	p.Checks = []api.Check{soft("s", -1, flag(0))}
	a = made(t, p)
	finds(t, "blank", a, []api.Value{blank, no})
	finds(t, "soft", a, []api.Value{blank, yes}, ofCheck(api.RuleCheck, false, 0, 0, yes, "s it is"))
	p.Lines[0].Must, p.Checks[0].Text = true, "!"
	a = made(t, p)
	finds(t, "must", a, []api.Value{blank, yes}, ofLine(api.RuleMissing, 0, 0, blank, "a"), ofCheck(api.RuleCheck, false, 0, 0, yes, "!"))
}
