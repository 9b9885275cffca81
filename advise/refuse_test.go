package advise_test

import (
	"math"
	"slices"
	"testing"

	"levy/api"
	"levy/trie"
)

func TestP16_1Numbers(t *testing.T) {
	if api.ErrAdviseCells != 160 || api.ErrAdviseMany != 161 || api.ErrAdviseTarget != 162 || api.MaxTries != 4096 {
		t.Error("other numbers")
	}
}

func TestExample2(t *testing.T) {
	p, in := example(), trie.Empty()
	refuses(t, "cells 0 and 0", p, in, []uint32{0, 0}, 2, api.ErrAdviseCells)
	advises(t, "no cells", p, in, nil, 2, none(1), none(1))
	gives(t, "no cells", all(p, in, nil, 2), way{nil, needed})
	refuses(t, "target 1", p, in, []uint32{0, 1}, 1, api.ErrAdviseTarget)
}

// A pack that eval.New refuses: types.Check's error, then the cycle's.
func TestP16_1Packs(t *testing.T) {
	bad := inputs(at(0, cent(1)))
	p := example()
	p.Year = 1899
	refuses(t, "a year", p, bad, []uint32{0, 0}, 99, api.ErrTypeSize)
	p = example()
	p.Lines[1].Name = "status"
	refuses(t, "a name twice", p, bad, []uint32{0, 0}, 99, api.ErrTypeTwice)
	p = example()
	p.Lines[2].Clauses[0].Body = line(1)
	refuses(t, "a kind", p, bad, []uint32{0, 0}, 99, api.ErrTypeKind)
	p = example()
	p.Lines[2].Clauses[0].Body = line(2)
	refuses(t, "a cycle", p, bad, []uint32{0, 0}, 99, api.ErrGraphCycle)
	p.Year = 1899
	refuses(t, "a year and a cycle", p, bad, []uint32{0, 0}, 99, api.ErrTypeSize)
	refuses(t, "no pack", api.Pack{}, bad, nil, 0, api.ErrTypeSize)
}

// Inputs that don't fit are told as Fits tells them, the first by its key.
func TestP16_1Inputs(t *testing.T) {
	p := allKinds()
	for _, x := range []struct {
		what string
		in   *trie.Map
		want api.Errno
	}{
		{"no cell", inputs(at(36, yes)), api.ErrEvalCell},
		{"no cell, far off", inputs(at(math.MaxUint32, yes)), api.ErrEvalCell},
		{"a computed line", inputs(at(15, cent(1))), api.ErrEvalInput},
		{"a check", inputs(at(35, yes)), api.ErrEvalInput},
		{"another kind", inputs(at(2, cent(1))), api.ErrEvalInput},
		{"a flag that isn't", inputs(at(2, val(api.Flag, 2))), api.ErrEvalInput},
		{"no option", inputs(at(4, option(3))), api.ErrEvalInput},
		{"a blank", inputs(at(2, blank)), api.ErrEvalInput},
		{"a row's flag that is false", inputs(at(30, no)), api.ErrEvalInput},
		{"a row that isn't used", inputs(at(9, yes), at(31, yes)), api.ErrEvalInput},
		{"the first one counts", inputs(at(2, cent(1)), at(36, yes)), api.ErrEvalInput},
	} {
		refuses(t, x.what, p, x.in, []uint32{2, 4}, 15, x.want)
		refuses(t, x.what+", no other fault tells", p, x.in, []uint32{0, 0}, 99, x.want)
	}
	takes(t, "at the bounds", p, inputs(at(0, cent(api.MaxCents)), at(4, option(2)), at(9, yes), at(30, yes)), []uint32{2, 4}, 15, 6)
}

// Of all cells alone the inputs of flags and choices may be chosen, in used rows.
func TestP16_1Cells(t *testing.T) {
	p := allKinds()
	may := map[uint32]int{2: 2, 4: 3, 9: 2, 13: 3}
	in := inputs(at(30, yes))
	for _, cell := range append(numbers(40), 255, 256, 257, 1<<16, math.MaxInt32, 1<<31, 1<<31+2, math.MaxUint32-1, math.MaxUint32) {
		if n, ok := may[cell]; ok {
			takes(t, "a cell", p, in, []uint32{cell}, 0, n)
			continue
		}
		refuses(t, "a cell", p, in, []uint32{cell}, 0, api.ErrAdviseCells)
		refuses(t, "a cell ahead of one that may be", p, in, []uint32{cell, 2}, 0, api.ErrAdviseCells)
		refuses(t, "a cell behind one that may be", p, in, []uint32{2, cell}, 0, api.ErrAdviseCells)
	}
}

// numbers: 0, 1 and so on.
func numbers(many int) []uint32 {
	var l []uint32
	for i := range uint32(many) {
		l = append(l, i)
	}
	return l
}

// Whether a row is used is asked of its own flag: of its group, and its row.
func TestP16_1Rows(t *testing.T) {
	p := api.Pack{
		Name: "rows", Year: 2024, Groups: []api.Group{{Name: "kid", Rows: 2}, {Name: "slip", Rows: 2}}, Options: []api.Options{optionsOf("size", 3)},
		Lines: []api.Line{input("a", api.Flag, 1), choosing("b", 0, 0), input("t", api.Cents, -1)}, // cells: a 0, 1; b 2, 3; t 4; the flags of kid 5, 6, of slip 7, 8
	}
	for cell, of := range []uint32{7, 8, 5, 6} {
		for other := uint32(5); other <= 8; other++ {
			if other == of {
				takes(t, "a used row", p, inputs(at(other, yes)), []uint32{uint32(cell)}, 4, 2+cell/2)
			} else {
				refuses(t, "another row is used", p, inputs(at(other, yes)), []uint32{uint32(cell)}, 4, api.ErrAdviseCells)
			}
		}
	}
	takes(t, "all rows", p, inputs(at(5, yes), at(6, yes), at(7, yes), at(8, yes)), []uint32{3, 0, 2, 1}, 4, 36)
	refuses(t, "all rows but one", p, inputs(at(5, yes), at(6, yes), at(8, yes)), []uint32{3, 0, 2, 1}, 4, api.ErrAdviseCells)
}

func TestP16_1Twice(t *testing.T) {
	p, in := allKinds(), inputs(at(30, yes), at(31, yes))
	for _, cells := range [][]uint32{{2, 2}, {4, 4}, {2, 4, 2}, {4, 2, 9, 10, 4}, {9, 9}, {13, 14, 2, 14}} {
		refuses(t, "twice", p, in, cells, 0, api.ErrAdviseCells)
	}
	takes(t, "unlike ones", p, in, []uint32{14, 2, 10, 9, 4, 13}, 0, 216)
	refuses(t, "very often", p, in, slices.Repeat([]uint32{2}, 1<<20), 0, api.ErrAdviseCells)
}

// columns: a pack of input lines of so many options each (2: flags too), a target behind them, and its cell.
func columns(options ...int) (api.Pack, []uint32, uint32) {
	p := api.Pack{Name: "columns", Year: 2024}
	for i, n := range options {
		table := slices.IndexFunc(p.Options, func(o api.Options) bool { return len(o.Names) == n })
		if table < 0 {
			table = len(p.Options)
			p.Options = append(p.Options, optionsOf(named("t", n), n))
		}
		p.Lines = append(p.Lines, choosing(named("l", i), table, -1))
		if n == 2 && i%2 == 0 {
			p.Lines[i] = input(named("l", i), api.Flag, -1)
		}
	}
	p.Lines = append(p.Lines, computed("t", api.Cents, -1, cents(7)))
	return p, numbers(len(options)), uint32(len(options))
}

// The bound is 4096 ways: at it they are tried, one past it, and far past it, none is.
func TestP16_1Many(t *testing.T) {
	for _, x := range []struct {
		what    string
		options []int
		ways    int // 0: too many
	}{
		{"a choice of one", []int{1}, 1},
		{"one flag", []int{2}, 2},
		{"eight options", []int{8}, 8},
		{"twelve of two", slices.Repeat([]int{2}, 12), 4096},
		{"four of eight", slices.Repeat([]int{8}, 4), 4096},
		{"four of eight, ones among them", []int{1, 8, 8, 1, 1, 8, 8, 1}, 4096},
		{"as many as can be below it", []int{2, 3, 3, 5, 3, 3, 5}, 4050},
		{"as few as can be above it", []int{7, 7, 4, 7, 3}, 0},
		{"thirteen of two", slices.Repeat([]int{2}, 13), 0},
		{"four of eight, and one of two", []int{8, 8, 8, 8, 2}, 0},
		{"the bound, ones, and one of two", []int{8, 8, 8, 8, 1, 1, 1, 2}, 0},
		{"32 flags", slices.Repeat([]int{2}, 32), 0},
		{"47 flags", slices.Repeat([]int{2}, 47), 0},
		{"47 of eight", slices.Repeat([]int{8}, 47), 0},
		{"47 of one", slices.Repeat([]int{1}, 47), 1},
	} {
		p, cells, target := columns(x.options...)
		if x.ways == 0 {
			refuses(t, x.what, p, nil, cells, target, api.ErrAdviseMany)
			refuses(t, x.what+", no target", p, nil, cells, 99, api.ErrAdviseMany)
			refuses(t, x.what+", one twice", p, nil, append(cells, 0), target, api.ErrAdviseCells)
			continue
		}
		takes(t, x.what, p, nil, cells, target, x.ways)
		refuses(t, x.what+", no target", p, nil, cells, 99, api.ErrAdviseTarget)
	}
}

// wide: 240 cells of choices, in used rows, of so many options each; and an input of cents as target.
func wide(options int) (api.Pack, *trie.Map, []uint32, uint32) {
	p := api.Pack{Name: "wide", Year: 2024, Groups: []api.Group{{Name: "kid", Rows: 8}}, Options: []api.Options{optionsOf("table", options)}}
	for i := range 30 {
		p.Lines = append(p.Lines, choosing(named("l", i), 0, 0))
	}
	p.Lines = append(p.Lines, input("t", api.Cents, -1))
	in := inputs(at(240, cent(3)))
	for row := range uint32(8) {
		in = in.Put(241+row, yes)
	}
	return p, in, numbers(240), 240
}

// Products that no number holds are above the bound too.
func TestP16_1ManyBeyondNumbers(t *testing.T) {
	for _, options := range []int{2, 4, 8, 7} {
		p, in, cells, target := wide(options)
		for many := 64; many <= 240; many += 8 {
			refuses(t, "many", p, in, cells[:many], target, api.ErrAdviseMany)
		}
		refuses(t, "many, and one that isn't an input", p, in, append(cells, 240), target, api.ErrAdviseCells)
	}
	p, in, cells, target := wide(1)
	advises(t, "one way of 240 cells", p, in, cells, target, found(1, cent(3), slices.Repeat([]api.Value{option(0)}, 240)...), found(1, cent(3), slices.Repeat([]api.Value{option(0)}, 240)...))
}

// A target is a cell of a line of cents, an input or not, in a used row or not; nothing else is one.
func TestP16_1Target(t *testing.T) {
	p := allKinds()
	for _, in := range []*trie.Map{inputs(), inputs(at(30, yes)), inputs(at(30, yes), at(31, yes), at(32, yes))} {
		for _, cell := range append(numbers(40), 255, 256, 257, 1<<16, math.MaxInt32, 1<<31, 1<<31+15, math.MaxUint32) {
			if slices.Contains([]uint32{0, 5, 6, 15, 20, 21}, cell) {
				takes(t, "a target", p, in, []uint32{2, 4}, cell, 6)
				takes(t, "a target, no cells", p, in, nil, cell, 1)
				continue
			}
			refuses(t, "a target", p, in, []uint32{2, 4}, cell, api.ErrAdviseTarget)
			refuses(t, "a target, no cells", p, in, nil, cell, api.ErrAdviseTarget)
			refuses(t, "a target, cells that can't be chosen", p, in, []uint32{2, 2}, cell, api.ErrAdviseCells)
		}
	}
}
