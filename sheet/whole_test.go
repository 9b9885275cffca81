package sheet_test

import (
	"fmt"
	"math/rand"
	"slices"
	"strings"
	"testing"

	"levy/api"
	"levy/sheet"
)

// P18.9 over what eval tells, too.
func TestP18_9WhatEvalTells(t *testing.T) {
	eachMade(t, 18090, 150, 30, func(r *rand.Rand, p api.Pack, m *model) {
		for range 3 {
			in := someInputs(r, m)
			pages := reckoned(t, p, in)
			reads(t, "what eval tells", p, pages, in)
			asModel(t, p, m, pages, tally{})
		}
	})
}

// The greatest return, full and with each row by itself.
func TestP18_9TheGreatestPack(t *testing.T) {
	p := greatest()
	m, all := modelOf(t, p), allUsed(t, p)
	for i := range 24 {
		for row := range api.MaxRows {
			all[m.cell(i, row)] = cent(int64(1000*i + row))
		}
	}
	pages := reckoned(t, p, all)
	if len(pages) != 8 {
		t.Fatalf("%d pages", len(pages))
	}
	reads(t, "full", p, pages, all)
	for group := range 4 {
		for row := range api.MaxRows {
			in := cells{m.flag(group, row): yes}
			reads(t, "one row", p, reckoned(t, p, in), in)
		}
	}
}

// Each byte of a return of two pages, put to other values: the neighbours by a bit, and those that stand on pages.
func TestP18_10EachByte(t *testing.T) {
	p := mixed()
	for i := range 12 {
		p.Lines = append(p.Lines, input(named("z", i), api.Count, -1))
	}
	vals := mixedValues()
	m := modelOf(t, p)
	vals = append(slices.Insert(vals, 14, make([]api.Value, 12)...), nil...)
	in := cells{}
	for cell, v := range full() {
		if cell >= 14 {
			cell += 12
		}
		in[cell] = v
	}
	pages := printed(t, p, in, vals)
	if len(pages) != 2 || m.graph.Cells() != len(vals) {
		t.Fatalf("%d pages, %d cells", len(pages), m.graph.Cells())
	}
	reads(t, "as it is", p, pages, in)
	seen := tally{}
	for i := range pages {
		for at := range pages[i] {
			was := pages[i][at]
			for _, b := range []byte{was ^ 1, was ^ 0x80, was + 1, was ^ 0xff, ' ', '\n', '.', '0', '9', 'a'} {
				if b == was {
					continue
				}
				bad := slices.Clone(pages)
				bad[i] = pages[i][:at] + string([]byte{b}) + pages[i][at+1:]
				in, page, line, e := sheet.Read(p, bad)
				if e == api.OK || in != nil || page != i || e == api.ErrSheetSize && line != 0 {
					t.Fatalf("byte %d of page %d put to %d: error %d at %d, %d", at, i, b, e, page, line)
				}
				seen[fmt.Sprint(int(e), " at ", line)]++
			}
		}
	}
	seen.atLeast(t, 500, "180 at 0", "181 at 0", "181 at 1", "181 at 39")
	if len(seen) != 4 {
		t.Errorf("%v", seen)
	}
}

// One byte of a place, put to all values there are.
func TestP18_10AllValues(t *testing.T) {
	pages := reckoned(t, example(), nine())
	for _, at := range []int{0, 30, 71, 72, 73, 2 * 73, 2*73 + 71, 5*73 + 10, 38 * 73, 39*73 + 63, 39*73 + 64, 2918, 2919} {
		for n := range 256 {
			if b := byte(n); b != pages[0][at] {
				bad := pages[0][:at] + string([]byte{b}) + pages[0][at+1:]
				if _, _, _, e := sheet.Read(example(), []string{bad}); e == api.OK {
					t.Errorf("byte %d put to %d is taken", at, n)
				}
			}
		}
	}
}

// Whatever the values are, the map is the one of the inputs.
func TestP18_11ValuesAreNotReadIn(t *testing.T) {
	seen := tally{}
	eachMade(t, 1811, 150, 24, func(r *rand.Rand, p api.Pack, m *model) {
		in := someInputs(r, m)
		first := printed(t, p, in, someValues(r, m))
		second := printed(t, p, in, someValues(r, m))
		reads(t, "the first", p, first, in)
		reads(t, "the second", p, second, in)
		if slices.Equal(first, second) {
			seen["alike"]++
		} else {
			seen["unlike"]++
		}
	})
	seen.atLeast(t, 50, "unlike")
}

// Values that the return can't have: the sheet doesn't ask whether they follow from the inputs.
func TestP18_11ValuesThatDoNotFollow(t *testing.T) {
	pages := reckoned(t, example(), nine())
	for _, text := range []string{"-", "1.00", "-99999999999.99", "#over", "#wrong"} {
		reads(t, text, example(), with(with(pages, 0, 3, entry("  total", text)), 0, 7, entry("    credit", text)), nine())
	}
	reads(t, "another wage", example(), with(pages, 0, 2, entry("> wage", "-")), nine().without(0))
	reads(t, "another age", example(), with(pages, 0, 6, entry(">   age", "-7")), nine().with(2, num(-7)))
}

// Pages of one pack over another one: names, marks and kinds tell it apart.
func TestP18_8AnotherPack(t *testing.T) {
	pages := reckoned(t, example(), nine())
	for what, x := range map[string]struct {
		change func(p *api.Pack)
		line   int
		errno  api.Errno
	}{
		"an input that was computed":  {func(p *api.Pack) { p.Lines[3].Input, p.Lines[3].Clauses = true, nil }, 3, api.ErrSheetLine},
		"another kind":                {func(p *api.Pack) { p.Lines[0].Type = api.Count }, 2, api.ErrSheetValue},
		"another name":                {func(p *api.Pack) { p.Lines[1].Name = "aged" }, 6, api.ErrSheetName},
		"another group's name":        {func(p *api.Pack) { p.Groups[0].Name = "kit" }, 4, api.ErrSheetName},
		"more rows":                   {func(p *api.Pack) { p.Groups[0].Rows = 3 }, 4, api.ErrSheetName},
		"a line more":                 {func(p *api.Pack) { p.Lines = append(p.Lines, input("x", api.Cents, -1)) }, 4, api.ErrSheetLine},
		"a column more":               {func(p *api.Pack) { p.Lines = append(p.Lines, input("x", api.Cents, 0)) }, 8, api.ErrSheetLine},
		"a group more":                {func(p *api.Pack) { p.Groups = append(p.Groups, api.Group{Name: "x", Rows: 1}) }, 8, api.ErrSheetLine},
		"a check more":                {func(p *api.Pack) { p.Checks = append(p.Checks, check("x", -1)) }, 8, api.ErrSheetLine},
		"a check a row more":          {func(p *api.Pack) { p.Checks = append(p.Checks, check("x", 0)) }, 8, api.ErrSheetLine},
		"a line less, which is group": {func(p *api.Pack) { p.Lines = p.Lines[:3] }, 3, api.ErrSheetLine},
	} {
		p := example()
		x.change(&p)
		faults(t, what, p, pages, 0, x.line, x.errno)
	}
	p := example()
	p.Lines[0].Must, p.Lines[3].Clauses[0].Body = true, of(api.OpCents, 1)
	reads(t, "other rules", p, pages, nine())
}

// What stands on the pages of a fixed return, to the byte.
func TestP18_1ToTheByte(t *testing.T) {
	p := api.Pack{Name: "one", Year: 2024, Lines: []api.Line{input("a", api.Flag, -1)}}
	want := "one 2024" + strings.Repeat(" ", 53) + "page 1 of 1\n" + strings.Repeat("=", 72) + "\n> a " + strings.Repeat(".", 64) + " yes\n" + strings.Repeat(strings.Repeat(" ", 72)+"\n", 36)
	pages := reckoned(t, p, cells{0: yes})
	if !slices.Equal(pages, []string{want + footOf(want) + "\n"}) {
		t.Errorf("%q", pages)
	}
}
