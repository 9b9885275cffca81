package advise_test

import (
	"iter"
	"slices"
	"sync"
	"testing"

	"levy/advise"
	"levy/api"
	"levy/trie"
)

func all(p api.Pack, in *trie.Map, cells []uint32, target uint32) iter.Seq2[[]api.Value, api.Value] {
	return advise.All(p, in, cells, target)
}

func TestExample1Ways(t *testing.T) {
	gives(t, "the example", all(example(), inputs(), []uint32{0, 1}, 2),
		way{[]api.Value{option(0), no}, cent(10000)}, way{[]api.Value{option(0), yes}, cent(10000)},
		way{[]api.Value{option(1), no}, cent(10000)}, way{[]api.Value{option(1), yes}, cent(9000)})
}

// The last cell's pick changes fastest, whatever the cells' numbers are.
func TestP16_2CountingOrder(t *testing.T) {
	p := weighed(1, 10, 100) // cells 0, 2 and 4, the sum in 5
	gives(t, "as they are", all(p, inputs(), []uint32{0, 2, 4}, 5),
		way{[]api.Value{no, no, no}, cent(0)}, way{[]api.Value{no, no, yes}, cent(100)}, way{[]api.Value{no, yes, no}, cent(10)}, way{[]api.Value{no, yes, yes}, cent(110)},
		way{[]api.Value{yes, no, no}, cent(1)}, way{[]api.Value{yes, no, yes}, cent(101)}, way{[]api.Value{yes, yes, no}, cent(11)}, way{[]api.Value{yes, yes, yes}, cent(111)})
	gives(t, "turned", all(p, inputs(at(0, yes)), []uint32{4, 2}, 5),
		way{[]api.Value{no, no}, cent(1)}, way{[]api.Value{no, yes}, cent(11)}, way{[]api.Value{yes, no}, cent(101)}, way{[]api.Value{yes, yes}, cent(111)})
}

// Choices go through their options, rising, each by the table of its own line.
func TestP16_2Options(t *testing.T) {
	p, cells, target := columns(1, 3, 2, 2)
	var want []way
	for a := range int64(3) {
		for _, f := range []api.Value{no, yes} {
			for b := range int64(2) {
				want = append(want, way{[]api.Value{option(0), option(a), f, option(b)}, cent(7)})
			}
		}
	}
	gives(t, "options", all(p, inputs(), cells, target), want...)
	p, cells, target = columns(8)
	want = nil
	for n := range int64(8) {
		want = append(want, way{[]api.Value{option(n)}, cent(7)})
	}
	gives(t, "eight options", all(p, inputs(), cells, target), want...)
}

// What stood at the cells ahead doesn't matter; what stands elsewhere does.
func TestP16_2WhatStandsThere(t *testing.T) {
	p := example()
	for _, in := range []*trie.Map{inputs(), inputs(at(0, option(0))), inputs(at(0, option(1))), inputs(at(1, yes)), inputs(at(0, option(1)), at(1, no))} {
		gives(t, "both", all(p, in, []uint32{1, 0}, 2),
			way{[]api.Value{no, option(0)}, cent(10000)}, way{[]api.Value{no, option(1)}, cent(10000)},
			way{[]api.Value{yes, option(0)}, cent(10000)}, way{[]api.Value{yes, option(1)}, cent(9000)})
	}
	gives(t, "no status", all(p, inputs(), []uint32{1}, 2), way{[]api.Value{no}, needed}, way{[]api.Value{yes}, needed})
	gives(t, "single", all(p, inputs(at(0, option(0))), []uint32{1}, 2), way{[]api.Value{no}, cent(10000)}, way{[]api.Value{yes}, cent(10000)})
	gives(t, "joint", all(p, inputs(at(0, option(1))), []uint32{1}, 2), way{[]api.Value{no}, cent(10000)}, way{[]api.Value{yes}, cent(9000)})
	gives(t, "not told whether old", all(p, inputs(), []uint32{0}, 2), way{[]api.Value{option(0)}, cent(10000)}, way{[]api.Value{option(1)}, needed})
	gives(t, "no cells", all(p, inputs(at(0, option(1)), at(1, yes)), nil, 2), way{nil, cent(9000)})
}

// A cell is never left blank: Flag 0 is a flag that is told.
func TestP16_2NeverBlank(t *testing.T) {
	p := example()
	p.Lines[2].Clauses[0].Body = either(op(api.OpOr, op(api.OpIsBlank, line(0)), op(api.OpIsBlank, line(1))), cents(1), cents(2))
	gives(t, "both", all(p, inputs(), []uint32{0, 1}, 2),
		way{[]api.Value{option(0), no}, cent(2)}, way{[]api.Value{option(0), yes}, cent(2)}, way{[]api.Value{option(1), no}, cent(2)}, way{[]api.Value{option(1), yes}, cent(2)})
	gives(t, "one", all(p, inputs(), []uint32{1}, 2), way{[]api.Value{no}, cent(1)}, way{[]api.Value{yes}, cent(1)})
}

// Picks at rows; worths at rows, used and not; inputs as targets; faults and blanks.
func TestP16_2Worths(t *testing.T) {
	p := api.Pack{
		Name: "rows", Year: 2024, Groups: []api.Group{{Name: "kid", Rows: 2}},
		Lines: []api.Line{ // cells: blind 0, 1; wage 2, 3; credit 4, 5; total 6; the flags 7, 8
			input("blind", api.Flag, 0), input("wage", api.Cents, 0),
			computed("credit", api.Cents, 0, either(line(0), line(1), cents(-5))), computed("total", api.Cents, -1, sum(2)),
		},
	}
	in := inputs(at(7, yes), at(2, cent(api.MaxCents)))
	twice := func(a, b api.Value) []way { return []way{{[]api.Value{no}, a}, {[]api.Value{yes}, b}} }
	gives(t, "a row", all(p, in, []uint32{0}, 4), twice(cent(-5), cent(api.MaxCents))...)
	gives(t, "a row that isn't used", all(p, in, []uint32{0}, 5), twice(blank, blank)...)
	gives(t, "a sum", all(p, in, []uint32{0}, 6), twice(cent(-5), cent(api.MaxCents))...)
	gives(t, "an input", all(p, in, []uint32{0}, 2), twice(cent(api.MaxCents), cent(api.MaxCents))...)
	gives(t, "an input of a row that isn't used", all(p, in, []uint32{0}, 3), twice(blank, blank)...)
	in = in.Put(8, yes).Put(3, cent(1)).Put(1, yes)
	gives(t, "two rows", all(p, in, []uint32{0}, 6), twice(cent(-4), over)...)
	gives(t, "the other row", all(p, in, []uint32{1}, 6), twice(needed, needed)...)
	gives(t, "a blank wage", all(p, in.Drop(3).Put(0, no), []uint32{1}, 6), twice(cent(-10), cent(-5))...)
}

// All may be left at any point, and gone through again, also while it is gone through.
func TestP16_4Left(t *testing.T) {
	p := weighed(1, 10, 100)
	seq := all(p, inputs(), []uint32{0, 2, 4}, 5)
	want := waysOf(seq)
	for many := 1; many <= 8; many++ {
		var l []way
		left := false
		seq(func(picks []api.Value, worth api.Value) bool {
			if left {
				t.Fatal("called again behind its end")
			}
			l = append(l, way{slices.Clone(picks), worth})
			left = len(l) == many
			return !left
		})
		if !slices.EqualFunc(l, want[:many], sameWay) {
			t.Errorf("left behind %d: %v", many, l)
		}
		gives(t, "again", seq, want...)
	}
	var l []way
	for picks, worth := range seq {
		gives(t, "within", seq, want...)
		l = append(l, way{picks, worth})
		for range seq {
			break
		}
	}
	if len(want) != 8 || !slices.EqualFunc(l, want, sameWay) {
		t.Errorf("around others: %v", l)
	}
}

// Steps of two walks, turn by turn: neither is seen in the other.
func TestP16_4SideBySide(t *testing.T) {
	p := weighed(1, 10, 100)
	seq := all(p, inputs(), []uint32{0, 2, 4}, 5)
	want := waysOf(seq)
	first, stopFirst := iter.Pull2(seq)
	defer stopFirst()
	first()
	second, stopSecond := iter.Pull2(seq)
	defer stopSecond()
	for i := range 7 {
		for at, next := range []func() ([]api.Value, api.Value, bool){second, first} {
			if picks, worth, ok := next(); !ok || !sameWay(way{picks, worth}, want[i+at]) {
				t.Errorf("step %d: %v %v %t, want %v", i, picks, worth, ok, want[i+at])
			}
		}
	}
	if _, _, ok := first(); ok {
		t.Error("a ninth way")
	}
}

func TestP16_4AtTheSameTime(t *testing.T) {
	p := weighed(1, 10, 100, 1000, 5)
	seq := all(p, inputs(), []uint32{8, 0, 2, 4, 6}, 9)
	want := waysOf(seq)
	var done sync.WaitGroup
	for range 8 {
		done.Go(func() {
			for range 10 {
				gives(t, "at the same time", seq, want...)
			}
		})
	}
	done.Wait()
}

// What becomes of the pack and of the cells behind the call isn't seen.
func TestP16_4WhatWasHandedIn(t *testing.T) {
	p, cells := example(), []uint32{0, 1}
	seq := all(p, inputs(), cells, 2)
	want := waysOf(seq)
	next, stop := iter.Pull2(seq)
	defer stop()
	next()
	cells[0], cells[1] = 1, 0
	gives(t, "other cells", seq, want...)
	p.Lines[2].Clauses[0].Body = cents(1)
	p.Options[0].Names = p.Options[0].Names[:1]
	p.Lines[0].Type, p.Lines[1].Input = api.Cents, false
	gives(t, "another pack", seq, want...)
	scribble(&p)
	scribble(&cells)
	gives(t, "junk", seq, want...)
	if picks, worth, ok := next(); !ok || !sameWay(way{picks, worth}, want[1]) || len(want) != 4 {
		t.Errorf("a walk that had begun: %v %v %t", picks, worth, ok)
	}
	twice := []uint32{0, 0}
	seq = all(example(), inputs(), twice, 2)
	twice[1] = 1
	gives(t, "cells that were refused", seq)
}

// Each list of picks is its own: what is written into one, or behind it, no other shows, and no way is changed by it.
func TestP16_4ListsAreApart(t *testing.T) {
	p := weighed(1, 10, 100)
	seq := all(p, inputs(), []uint32{0, 2, 4}, 5)
	want := waysOf(seq)
	var kept [][]api.Value
	i := 0
	for picks, worth := range seq {
		if !sameWay(way{picks, worth}, want[i]) {
			t.Errorf("way %d: %v %v, want %v", i, picks, worth, want[i])
		}
		kept = append(kept, picks)
		if i%2 == 0 {
			scribble(&picks)
			_ = append(picks, blank, blank)
		}
		i++
	}
	for i := 1; i < len(kept); i += 2 {
		if !slices.Equal(kept[i], want[i].picks) {
			t.Errorf("way %d, kept: %v, want %v", i, kept[i], want[i])
		}
	}
	gives(t, "again", seq, want...)
}
