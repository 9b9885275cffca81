package merge_test

import (
	"math"
	"testing"

	"levy/api"
)

func TestExamples1To3(t *testing.T) {
	p := example()
	merges(t, "example 1", p, cells{0: cent(100)}, cells{0: cent(200)}, cells{0: cent(100), 6: yes, 1: num(9)}, cells{0: cent(200), 6: yes, 1: num(9)})
	merges(t, "example 2", p, cells{6: yes, 1: num(9)}, cells{}, cells{6: yes, 1: num(10)}, cells{}, 6, 1)
	merges(t, "example 3", p, cells{}, cells{6: yes, 1: num(3)}, cells{6: yes}, cells{6: yes, 1: num(3)}, 1)
}

// A key of no row, by itself: a line's cell, a computed line's, a check's, and what is no cell; each with all that three sides may hold there.
func TestP15_3ByItself(t *testing.T) {
	sides := []*api.Value{nil, {}, {Kind: api.Cents, Num: 1}, {Kind: api.Cents, Num: 2}, {Kind: api.Count, Num: 1}, {Kind: api.Flag, Num: 1}}
	holding := func(key uint32, v *api.Value) cells {
		if v == nil {
			return cells{}
		}
		return cells{key: *v}
	}
	for _, key := range []uint32{4, 13, 5, 9, 20, 22, 24, 255, 256, math.MaxUint32} {
		for i, x := range sides {
			for j, y := range sides {
				for k, z := range sides {
					base, ours, theirs := holding(key, x), holding(key, y), holding(key, z)
					switch {
					case j == k:
						merges(t, "both alike", mixed(), base, ours, theirs, ours)
					case j == i:
						merges(t, "ours like the base", mixed(), base, ours, theirs, theirs)
					case k == i:
						merges(t, "theirs like the base", mixed(), base, ours, theirs, ours)
					default:
						merges(t, "all unlike", mixed(), base, ours, theirs, ours, key)
					}
				}
			}
		}
	}
}

// Keys of no row hang on no other key.
func TestP15_3EachByItself(t *testing.T) {
	base := cells{4: cent(1), 5: cent(1), 9: cent(1), 13: cent(1), 20: yes, 300: cent(1)}
	ours := cells{4: cent(2), 5: cent(1), 9: cent(3), 20: yes, 300: cent(2), 301: blank}
	theirs := cells{4: cent(1), 5: cent(2), 9: cent(4), 13: cent(2), 300: cent(2), 301: cent(0)}
	merges(t, "all sorts", mixed(), base, ours, theirs, cells{4: cent(2), 5: cent(2), 9: cent(3), 300: cent(2), 301: blank}, 13, 9, 301)
}

// A row that one side has changed, made new or dropped, and the other has as the base has it.
func TestP15_4OneSide(t *testing.T) {
	p := mixed()
	used, other := cells{14: yes, 1: cent(1), 10: num(1)}, cells{14: yes, 1: cent(2)}
	rows := map[string]cells{"none": {}, "used": used, "other": other, "halves": {1: cent(1)}, "no flag": {14: no, 10: num(4)}, "flag": {14: yes}}
	for from, base := range rows {
		for to, side := range rows {
			merges(t, from+" to "+to+" by theirs", p, base, base, side, side)
			merges(t, from+" to "+to+" by ours", p, base, side, base, side)
			merges(t, from+" to "+to+" by both", p, base, side, side, side)
		}
	}
}

// A row that is used on all three sides: each of its keys by itself.
func TestP15_4UsedInAll(t *testing.T) {
	p := mixed()
	base := cells{14: yes, 1: cent(1), 10: num(1)}
	merges(t, "unlike cells", p, base, base.with(1, cent(2)), base.with(10, num(2)), cells{14: yes, 1: cent(2), 10: num(2)})
	merges(t, "a cell cleared, another changed", p, base, base.without(1), base.with(10, num(2)), cells{14: yes, 10: num(2)})
	merges(t, "a cell changed, another cleared", p, base, base.with(1, cent(3)), base.without(10), cells{14: yes, 1: cent(3)})
	merges(t, "one cell", p, base, base.with(1, cent(2)), base.with(1, cent(3)), base.with(1, cent(2)), 1)
	merges(t, "one cell, cleared and changed", p, base, base.without(1), base.with(1, cent(3)), base.without(1), 1)
	merges(t, "both cells", p, base, cells{14: yes, 1: cent(2), 10: num(2)}, cells{14: yes, 1: cent(3)}, cells{14: yes, 1: cent(2), 10: num(2)}, 1, 10)
	merges(t, "one cell alike, one not", p, base, cells{14: yes, 1: cent(2), 10: num(2)}, cells{14: yes, 1: cent(2), 10: num(3)}, cells{14: yes, 1: cent(2), 10: num(2)}, 10)
	merges(t, "one alike, one by ours alone", p, base, cells{14: yes, 1: cent(2), 10: num(2)}, cells{14: yes, 1: cent(2), 10: num(1)}, cells{14: yes, 1: cent(2), 10: num(2)})
	merges(t, "one alike, one by theirs alone", p, base, cells{14: yes, 1: cent(2), 10: num(1)}, cells{14: yes, 1: cent(2), 10: num(2)}, cells{14: yes, 1: cent(2), 10: num(2)})
	merges(t, "cells set where none were", p, cells{14: yes}, cells{14: yes, 1: cent(2)}, cells{14: yes, 10: num(2)}, cells{14: yes, 1: cent(2), 10: num(2)})
}

// A row that isn't used on one of the sides is never put together out of halves.
func TestP15_4InDispute(t *testing.T) {
	p := mixed()
	row := cells{14: yes, 1: cent(1), 10: num(1)}
	merges(t, "dropped by ours", p, row, cells{}, row.with(1, cent(2)), cells{}, 14, 1, 10)
	merges(t, "dropped by theirs", p, row, row.with(1, cent(2)), cells{}, row.with(1, cent(2)), 14, 1, 10)
	merges(t, "dropped by ours, blanks in theirs", p, row, cells{}, row.without(1), cells{}, 14, 10)
	merges(t, "new in both", p, cells{}, row, row.with(10, num(2)), row, 10)
	merges(t, "new in both, unlike cells", p, cells{}, cells{14: yes, 1: cent(1)}, cells{14: yes, 10: num(1)}, cells{14: yes, 1: cent(1)}, 1, 10)
	merges(t, "new in both, one blank", p, cells{}, cells{14: yes}, row, cells{14: yes}, 1, 10)
	merges(t, "a key alike in all", p, cells{10: num(1)}, row, row.with(1, cent(2)), row, 1)
	merges(t, "keys that only one side changed", p, cells{1: cent(1), 10: num(1)}, cells{1: cent(2), 10: num(1)}, cells{1: cent(1), 10: num(2)}, cells{1: cent(2), 10: num(1)}, 1, 10)
}

// Used is Flag 1 alone: any other value at the flag is none, on each of the sides.
func TestP15_4Used(t *testing.T) {
	p := mixed()
	base, ours, theirs := cells{14: yes, 1: cent(1)}, cells{14: yes, 1: cent(2)}, cells{14: yes, 1: cent(1), 10: num(2)}
	merges(t, "used in all", p, base, ours, theirs, cells{14: yes, 1: cent(2), 10: num(2)})
	for _, v := range []api.Value{no, blank, cent(1), num(1), val(api.Flag, 2), val(api.Flag, -1), val(api.Flag, 1<<32+1), val(api.Fault, 1), val(api.Day, 1), val(api.Choice, 1)} {
		merges(t, "not in the base", p, base.with(14, v), ours, theirs, ours, 1, 10)
		merges(t, "not in ours", p, base, ours.with(14, v), theirs, ours.with(14, v), 14, 1, 10)
		merges(t, "not in theirs", p, base, ours, theirs.with(14, v), ours, 14, 1, 10)
		merges(t, "in none", p, base.with(14, v), ours.with(14, v), theirs.with(14, v), ours.with(14, v), 1, 10)
	}
	merges(t, "no flag in the base", p, base.without(14), ours, theirs, ours, 1, 10)
	merges(t, "no flag at all", p, base.without(14), ours.without(14), theirs.without(14), ours.without(14), 1, 10)
}

// A row of a group without input lines: its flag is all that it has.
func TestP15_4FlagsAlone(t *testing.T) {
	p := mixed()
	merges(t, "added by theirs", p, cells{}, cells{}, cells{17: yes}, cells{17: yes})
	merges(t, "dropped by ours", p, cells{17: yes}, cells{}, cells{17: yes}, cells{})
	merges(t, "one each", p, cells{17: yes}, cells{}, cells{17: yes, 18: yes}, cells{18: yes})
	merges(t, "all unlike", p, cells{17: yes}, cells{17: no}, cells{17: blank}, cells{17: no}, 17)
	merges(t, "dropped and other", p, cells{17: yes}, cells{}, cells{17: no}, cells{}, 17)
}

// Rows hang on no other row, nor on computed cells at them; the conflicts of all are in the form's order.
func TestP15_4RowByRow(t *testing.T) {
	p := mixed()
	base := cells{14: yes, 1: cent(1), 15: yes, 2: cent(1), 19: yes, 0: cent(1), 8: yes, 5: cent(1), 21: no}
	ours := cells{14: yes, 1: cent(2), 16: yes, 3: cent(1), 19: yes, 0: cent(2), 5: cent(2), 21: yes, 4: cent(1)}
	theirs := cells{14: yes, 1: cent(1), 10: num(1), 15: yes, 2: cent(2), 16: yes, 12: num(1), 19: yes, 0: cent(3), 8: no, 5: cent(3), 21: no, 4: cent(2)}
	want := cells{14: yes, 1: cent(2), 10: num(1), 16: yes, 3: cent(1), 19: yes, 0: cent(2), 5: cent(2), 21: yes, 4: cent(1)}
	merges(t, "three rows and more", p, base, ours, theirs, want, 4, 15, 2, 3, 12, 0, 8, 5)
}

// What a conflict tells of sides that hold nothing, or Blank.
func TestP15_5Told(t *testing.T) {
	merges(t, "nothing, blank, a value", example(), cells{}, cells{0: blank}, cells{0: cent(1)}, cells{0: blank}, 0)
	merges(t, "blank, nothing, a value", example(), cells{0: blank}, cells{}, cells{0: cent(1)}, cells{}, 0)
	merges(t, "a value, blank, nothing", example(), cells{0: cent(1)}, cells{0: blank}, cells{}, cells{0: blank}, 0)
}
