package audit_test

import (
	"slices"
	"testing"

	"levy/api"
)

// Which cells are read, in which order, and where the calls end.

func TestP14_5ReadsOfAll(t *testing.T) {
	a := made(t, several())
	hard := []uint32{7, 11, 8, 12, 15, 9, 16, 1, 2, 3, 6, 0, 4, 5}
	all := append(slices.Clone(hard), 10, 13, 14)
	r := reads(still()...)
	a.Run(r.read)
	r.wants(t, "Run", all...)
	a.First(r.read)
	r.wants(t, "First of none", all...)
	a.May(r.read)
	r.wants(t, "May", hard...)
}

// Of a row that doesn't count the flag alone is read, once for all of its questions.
func TestP14_5ReadsOfRowsThatDoNotCount(t *testing.T) {
	a := made(t, several())
	r := reads(but(still(), at(7, no))...)
	a.Run(r.read)
	r.wants(t, "without row 1", 7, 8, 12, 15, 9, 16, 2, 3, 6, 0, 5, 10, 14)
	r = reads(but(still(), at(8, blank), at(9, num(1)))...)
	a.Run(r.read)
	r.wants(t, "without row 2 and slip", 7, 11, 8, 15, 9, 1, 3, 0, 4, 10, 13)
	r = reads(but(still(), at(7, no), at(8, over), at(9, no))...)
	a.Run(r.read)
	r.wants(t, "without rows", 7, 8, 15, 9, 3, 0, 10)
	a.May(r.read)
	r.wants(t, "May without rows", 7, 8, 15, 9, 3, 0)
}

// What read answered first counts on, though it would answer otherwise.
func TestP14_5TheFirstAnswerCountsOn(t *testing.T) {
	a := made(t, several())
	vals := but(still(), at(7, yes), at(11, needed), at(1, blank), at(8, no))
	times := make([]int, len(vals))
	read := func(cell uint32) api.Value {
		if times[cell]++; times[cell] > 1 {
			t.Errorf("cell %d is read again", cell)
			return over
		}
		return vals[cell]
	}
	want := []api.Finding{ofCheck(api.RuleUnsure, true, 1, 0, needed, "h it is"), ofLine(api.RuleMissing, 1, 0, blank, "a")}
	if l := a.Run(read); !slices.Equal(l, want) {
		t.Errorf("Run: %+v", l)
	}
	clear(times)
	if f, ok := a.First(read); f != want[0] || !ok {
		t.Errorf("First: %+v, %t", f, ok)
	}
	clear(times)
	if a.May(read) {
		t.Error("May")
	}
}

// Between calls nothing is remembered: each is told anew.
func TestP14_5EachCallReadsAnew(t *testing.T) {
	a := made(t, example())
	r := reads(cent(5), num(5), num(5), cent(0), cent(0), cent(0), yes, yes, no)
	for _, v := range []api.Value{no, yes, needed, no, over} {
		r.vals[8] = v
		want := v == no
		if l := a.Run(r.read); (len(l) == 0) != want {
			t.Errorf("%v: Run: %+v", v, l)
		}
		if f, ok := a.First(r.read); ok == want {
			t.Errorf("%v: First: %+v, %t", v, f, ok)
		}
		if a.May(r.read) != want {
			t.Errorf("%v: May", v)
		}
	}
}

// First and May end at what they find, wherever it stands.
func TestP14_7FirstEnds(t *testing.T) {
	a := made(t, several())
	for _, x := range []struct {
		what  string
		vals  []api.Value
		reads []uint32
		first api.Finding
	}{
		{"the first question", but(still(), at(11, yes), at(15, yes)), []uint32{7, 11}, ofCheck(api.RuleCheck, true, 1, 0, yes, "h it is")},
		{"one that isn't told", but(still(), at(11, over), at(1, over)), []uint32{7, 11, 8, 12, 15, 9, 16}, ofCheck(api.RuleUnsure, true, 1, 0, over, "h it is")},
		{"one that is true, behind one that isn't told", but(still(), at(11, over), at(15, yes)), []uint32{7, 11, 8, 12, 15}, ofCheck(api.RuleCheck, true, 3, 0, yes, "g it is")},
		{"a line that is missing", but(still(), at(2, blank), at(0, over)), []uint32{7, 11, 8, 12, 15, 9, 16, 1, 2}, ofLine(api.RuleMissing, 1, 1, blank, "a")},
		{"the last that is missing", but(still(), at(6, blank), at(1, over)), []uint32{7, 11, 8, 12, 15, 9, 16, 1, 2, 3, 6}, ofLine(api.RuleMissing, 4, 0, blank, "d")},
		{"the first line", but(still(), at(0, over), at(10, yes)), []uint32{7, 11, 8, 12, 15, 9, 16, 1, 2, 3, 6, 0}, ofLine(api.RuleFault, 0, 0, over, "free")},
		{"a line that was read already", but(still(), at(1, over), at(10, yes)), []uint32{7, 11, 8, 12, 15, 9, 16, 1, 2, 3, 6, 0}, ofLine(api.RuleFault, 1, 0, over, "a")},
		{"the last line", but(still(), at(5, over), at(10, yes)), []uint32{7, 11, 8, 12, 15, 9, 16, 1, 2, 3, 6, 0, 4, 5}, ofLine(api.RuleFault, 3, 1, over, "c")},
	} {
		r := reads(x.vals...)
		if f, ok := a.First(r.read); f != x.first || !ok {
			t.Errorf("%s: First: %+v, %t", x.what, f, ok)
		}
		r.wants(t, x.what+": First", x.reads...)
		if a.May(r.read) {
			t.Errorf("%s: May", x.what)
		}
		r.wants(t, x.what+": May", x.reads...)
	}
}

// A soft finding: First ends there, May doesn't come to it.
func TestP14_8SoftOnes(t *testing.T) {
	a := made(t, several())
	hard := []uint32{7, 11, 8, 12, 15, 9, 16, 1, 2, 3, 6, 0, 4, 5}
	for _, x := range []struct {
		what  string
		vals  []api.Value
		reads []uint32
		first api.Finding
	}{
		{"the first soft one", but(still(), at(10, yes)), []uint32{10}, ofCheck(api.RuleCheck, false, 0, 0, yes, "s it is")},
		{"one of a row", but(still(), at(14, yes)), []uint32{10, 13, 14}, ofCheck(api.RuleCheck, false, 2, 1, yes, "k it is")},
		{"one that isn't told", but(still(), at(10, blank)), []uint32{10, 13, 14}, ofCheck(api.RuleUnsure, false, 0, 0, blank, "s it is")},
		{"true ahead of untold", but(still(), at(10, blank), at(13, yes)), []uint32{10, 13}, ofCheck(api.RuleCheck, false, 2, 0, yes, "k it is")},
	} {
		r := reads(x.vals...)
		if f, ok := a.First(r.read); f != x.first || !ok {
			t.Errorf("%s: First: %+v, %t", x.what, f, ok)
		}
		r.wants(t, x.what+": First", slices.Concat(hard, x.reads)...)
		if !a.May(r.read) {
			t.Errorf("%s: May", x.what)
		}
		r.wants(t, x.what+": May", hard...)
	}
}

func TestP14_7None(t *testing.T) {
	if f, ok := made(t, several()).First(reads(still()...).read); f != (api.Finding{}) || ok {
		t.Errorf("First of none: %+v, %t", f, ok)
	}
	if l := made(t, several()).Run(reads(still()...).read); len(l) != 0 {
		t.Errorf("Run: %+v", l)
	}
}
