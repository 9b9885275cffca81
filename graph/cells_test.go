package graph_test

import (
	"fmt"
	"math"
	"testing"

	"levy/api"
	"levy/types"
)

// placed: a pack that has lines, flags and checks of three groups, whose order isn't that of their lines.
func placed() api.Pack {
	never := op(api.OpIsBlank, line(1))
	return api.Pack{
		Name: "placed", Year: 2024,
		Groups: []api.Group{{Name: "one", Rows: 1}, {Name: "three", Rows: 3}, {Name: "two", Rows: 2}},
		Lines:  []api.Line{input("a", api.Cents, 2), input("b", api.Cents, -1), input("c", api.Flag, 1), input("d", api.Day, 0), input("e", api.Cents, -1)},
		Checks: []api.Check{{Name: "k", Group: 1, When: never, Text: "k"}, {Name: "l", Group: -1, When: never, Text: "l"}, {Name: "m", Group: 2, When: never, Text: "m"}},
	}
}

// placedAt: what the cells of that pack are, by their numbers.
func placedAt() []api.Place {
	var l []api.Place
	for _, x := range [][3]int{
		{api.PlaceLine, 0, 2}, {api.PlaceLine, 1, 1}, {api.PlaceLine, 2, 3}, {api.PlaceLine, 3, 1}, {api.PlaceLine, 4, 1},
		{api.PlaceFlag, 0, 1}, {api.PlaceFlag, 1, 3}, {api.PlaceFlag, 2, 2},
		{api.PlaceCheck, 0, 3}, {api.PlaceCheck, 1, 1}, {api.PlaceCheck, 2, 2},
	} {
		for row := range x[2] {
			l = append(l, api.Place{Kind: x[0], Index: x[1], Row: row})
		}
	}
	return l
}

func TestP8_2Numbers(t *testing.T) {
	g := made(t, placed())
	if g.Cells() != 20 || g.Cells() != len(placedAt()) || g.Cells() != types.Cells(placed()) {
		t.Errorf("%d cells", g.Cells())
	}
	for cell, want := range placedAt() {
		if got, ok := g.Place(cell); got != want || !ok {
			t.Errorf("Place(%d): %v, %t, want %v", cell, got, ok, want)
		}
	}
}

func TestP8_3CellFlagCheck(t *testing.T) {
	g := made(t, placed())
	at := map[api.Place]int{}
	for cell, place := range placedAt() {
		at[place] = cell + 1
	}
	numbers := []int{math.MinInt, math.MinInt32, -2, -1, 0, 1, 2, 3, 4, 5, 6, 7, 8, 9, 255, 256, math.MaxInt32, math.MaxInt}
	for _, index := range numbers {
		for _, row := range numbers {
			spots(t, "Cell", g.Cell, index, row, at[api.Place{Kind: api.PlaceLine, Index: index, Row: row}]-1)
			spots(t, "Flag", g.Flag, index, row, at[api.Place{Kind: api.PlaceFlag, Index: index, Row: row}]-1)
			spots(t, "Check", g.Check, index, row, at[api.Place{Kind: api.PlaceCheck, Index: index, Row: row}]-1)
		}
	}
}

// noCells: numbers that are no cells of a graph of n cells.
func noCells(n int) []int {
	return []int{math.MinInt, math.MinInt32, -256, -2, -1, n, n + 1, api.MaxCells - 1 + n/api.MaxCells, api.MaxCells, api.MaxCells + 1, math.MaxInt32, math.MaxInt}
}

func TestP8_3NoPlace(t *testing.T) {
	for _, p := range []api.Pack{example(), placed(), full()} {
		g := made(t, p)
		for _, cell := range noCells(g.Cells()) {
			if place, ok := g.Place(cell); ok || place != (api.Place{}) {
				t.Errorf("Place(%d): %v, %t", cell, place, ok)
			}
		}
	}
}

// full: a pack of as many cells as may be, each computed line but the first reading the one ahead of it.
func full() api.Pack {
	p := api.Pack{Name: "full", Year: 2024}
	for i := range api.MaxGroups {
		p.Groups = append(p.Groups, api.Group{Name: named("g", i), Rows: api.MaxRows})
	}
	for i := range 26 {
		p.Lines = append(p.Lines, computed(named("l", i), api.Cents, i%4, sum(max(0, i-1))))
	}
	p.Lines[0] = input("first", api.Cents, 0)
	for i := range 2 {
		p.Checks = append(p.Checks, api.Check{Name: named("c", i), Group: i, Text: "so", When: op(api.OpLt, sum(25), cents(0))})
	}
	return p
}

func TestP8_2AsManyCellsAsMayBe(t *testing.T) {
	g := made(t, full())
	if g.Cells() != api.MaxCells {
		t.Errorf("%d cells", g.Cells())
	}
	if place, ok := g.Place(255); place != (api.Place{Kind: api.PlaceCheck, Index: 1, Row: 7}) || !ok {
		t.Errorf("Place(255): %v, %t", place, ok)
	}
	spots(t, "Check", g.Check, 1, 7, 255)
	spots(t, "Check", g.Check, 1, 8, -1)
	spots(t, "Flag", g.Flag, 3, 7, 239)
	asModel(t, full())
	over := full()
	over.Checks = append(over.Checks, api.Check{Name: "more", Group: -1, Text: "so", When: flag(1)})
	refused(t, "one cell more", over, api.ErrTypeSize)
}

func TestP8_2Fewest(t *testing.T) {
	g := made(t, plain(nil))
	if s := text(g); g.Cells() != 1 || fmt.Sprint(g.Order()) != "[0]" || g.Rank(0) != 0 {
		t.Errorf("one line alone: %s", s)
	}
	spots(t, "Cell", g.Cell, 0, 0, 0)
	spots(t, "Flag", g.Flag, 0, 0, -1)
	spots(t, "Check", g.Check, 0, 0, -1)
}

func TestExample4(t *testing.T) {
	g := made(t, example())
	spots(t, "Cell", g.Cell, 2, 1, 4)
	spots(t, "Cell", g.Cell, 0, 1, -1)
	spots(t, "Cell", g.Cell, 9, 0, -1)
	spots(t, "Flag", g.Flag, 0, 2, -1)
	spots(t, "Check", g.Check, 0, 0, -1)
	if place, ok := g.Place(7); place != (api.Place{Kind: api.PlaceFlag, Index: 0, Row: 1}) || !ok {
		t.Errorf("Place(7): %v, %t", place, ok)
	}
	if _, ok := g.Place(8); ok || g.Rank(8) != -1 {
		t.Errorf("Place(8): %t, Rank(8): %d", ok, g.Rank(8))
	}
}
