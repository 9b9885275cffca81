package advise_test

import (
	"math"
	"math/rand"
	"slices"
	"testing"

	"levy/advise"
	"levy/api"
	"levy/eval"
	"levy/trie"
)

// The chapter's words on memory, and on all arguments.

// strange: numbers that may stand anywhere.
func strange(r *rand.Rand) int {
	return pick(r, math.MinInt, math.MinInt32, -2, -1, 0, 0, 1, 1, 2, 3, 5, 6, 8, 9, 42, math.MaxInt32, math.MaxInt)
}

// strangeCell: a cell, or a number that is none.
func strangeCell(r *rand.Rand, m *model) uint32 {
	if r.Intn(10) == 0 {
		return pick[uint32](r, 255, 256, 257, 1<<16, math.MaxInt32, 1<<31, math.MaxUint32)
	}
	return uint32(r.Intn(m.graph.Cells() + 2))
}

// Any cells, any targets, inputs that fit and that don't: the error is the model's.
func TestP16_1AsTheModel(t *testing.T) {
	counts := tally{}
	eachMade(t, 1601, 150, 24, func(r *rand.Rand, p api.Pack, m *model) {
		for range 16 {
			l := m.fitting(r)
			in := inputs(l...)
			cells := m.chosen(r, l, m.anyCells(r), pick(r, 50, 50, 1<<40))
			for r.Intn(4) == 0 {
				cells = append(cells, strangeCell(r, m))
			}
			if r.Intn(10) == 0 {
				in = in.Put(strangeCell(r, m), pick(r, yes, no, blank, cent(1), option(1), val(strange(r), int64(strange(r)))))
			}
			target := strangeCell(r, m)
			if targets := m.targets(); len(targets) > 0 && r.Intn(3) > 0 {
				target = pick(r, targets...)
			}
			want := m.refusal(in, cells, target)
			counts[want.Error()]++
			if want != api.OK {
				refuses(t, "as the model", p, in, cells, target, want)
			} else {
				takes(t, "as the model", p, in, cells, target, len(m.ways(in, cells, target)))
			}
			if t.Failed() {
				t.Fatalf("inputs %v", l)
			}
		}
	})
	for _, e := range []api.Errno{api.OK, api.ErrEvalCell, api.ErrEvalInput, api.ErrAdviseCells, api.ErrAdviseMany, api.ErrAdviseTarget} {
		counts.atLeast(t, 20, e.Error())
	}
}

// What is handed in stays as it is, spare room too.
func TestP16_1ArgumentsStayAsTheyAre(t *testing.T) {
	eachMade(t, 1611, 60, 20, func(r *rand.Rand, p api.Pack, m *model) {
		l := m.fitting(r)
		in, cells := inputs(l...), m.chosen(r, l, m.anyCells(r), 50)
		roomy(&p)
		roomy(&cells)
		pack, list := laidOpen(&p), laidOpen(&cells)
		for _, target := range append(m.computedTargets(2), 99) {
			advise.Best(p, in, cells, target, r.Intn(2) == 0)
			for picks := range advise.All(p, in, cells, target) {
				scribble(&picks)
			}
		}
		if laidOpen(&p) != pack || laidOpen(&cells) != list {
			t.Error("the pack or the cells are others")
		}
		for range trie.Diff(in, inputs(l...)) {
			t.Error("the inputs are others")
		}
	})
}

func TestP16_1NilAndEmptyAreTheSame(t *testing.T) {
	p := worths(cents(4), cents(3))
	p.Tables, p.Groups, p.Checks, p.Lines[0].Clauses = []api.Table{}, []api.Group{}, []api.Check{}, []api.Clause{}
	for _, in := range []*trie.Map{nil, trie.Empty()} {
		for _, cells := range [][]uint32{nil, {}, make([]uint32, 0, 3)} {
			advises(t, "no cells", p, in, cells, 2, none(1), none(1))
			gives(t, "no cells", advise.All(p, in, cells, 2), way{nil, needed})
		}
		advises(t, "no inputs", p, in, []uint32{0}, 2, found(2, cent(3), option(1)), found(2, cent(4), option(0)))
		refuses(t, "no inputs, no target", p, in, []uint32{0}, 0, api.ErrAdviseTarget)
	}
}

// Packs of any numbers: eval.New's error, or an answer; no call panics.
func TestP16_1AnyPack(t *testing.T) {
	r := rand.New(rand.NewSource(1612))
	refused := 0
	for range 2000 {
		p := allKinds()
		for range 1 + r.Intn(2) {
			l, k, g := &p.Lines[r.Intn(len(p.Lines))], &p.Checks[r.Intn(2)], &p.Groups[r.Intn(2)]
			*pick(r, &l.Type, &l.Options, &l.Group, &k.Group, &g.Rows, &p.Year) = strange(r)
			if r.Intn(8) == 0 {
				l.Input = !l.Input
			}
		}
		in, cells, target := inputs(at(30, yes)), []uint32{uint32(r.Intn(12)), 2}, uint32(r.Intn(30))
		if _, e := eval.New(p); e != api.OK {
			refused++
			refuses(t, "a pack", p, in, cells, target, e)
			continue
		}
		want := modelOf(t, p).refusal(in, cells, target)
		if _, e := advise.Best(p, in, cells, target, false); e != want {
			t.Errorf("error %d, want %d", e, want)
		}
	}
	p := allKinds()
	scribble(&p)
	refuses(t, "junk", p, inputs(), []uint32{2}, 0, api.ErrTypeSize)
	refuses(t, "wide", api.Pack{Name: "wide", Year: 2024, Lines: slices.Repeat([]api.Line{input("a", api.Flag, 0)}, 1000)}, inputs(), []uint32{0}, 0, api.ErrTypeSize)
	if refused < 500 || refused > 1950 {
		t.Errorf("%d were refused", refused)
	}
}

// The bound's 4096 ways, over lines of which each hangs on the one ahead of it: the worth of each way is known.
func TestP16_3AtTheBound(t *testing.T) {
	weights := []int64{3, -1, 4, 1, -5, 9, 2, -6, 5, 3, 5, -8}
	p := weighed(weights...)
	var cells []uint32
	for i := range weights {
		cells = append(cells, uint32(2*i))
	}
	n := 0
	for picks, worth := range advise.All(p, inputs(), cells, 23) {
		sum := int64(0)
		for i, v := range picks {
			if v != val(api.Flag, int64(n>>(11-i)&1)) {
				t.Fatalf("way %d: %v", n, picks)
			}
			sum += v.Num * weights[i]
		}
		if worth != cent(sum) {
			t.Fatalf("way %d: %v, want %d", n, worth, sum)
		}
		n++
	}
	if n != 4096 {
		t.Errorf("%d ways", n)
	}
	least, most := found(4096, cent(-20)), found(4096, cent(32))
	for _, w := range weights {
		if w < 0 {
			least.Picks, most.Picks = append(least.Picks, yes), append(most.Picks, no)
		} else {
			least.Picks, most.Picks = append(least.Picks, no), append(most.Picks, yes)
		}
	}
	advises(t, "the bound", p, inputs(), cells, 23, least, most)
}
