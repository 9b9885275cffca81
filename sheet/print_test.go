package sheet_test

import (
	"fmt"
	"slices"
	"strings"
	"testing"

	"levy/api"
	"levy/sheet"
	"levy/trie"
)

// stands asks for what stands at the places of pages, from the first on; those behind must be blank.
func stands(t *testing.T, what string, pages []string, want ...string) {
	t.Helper()
	got := placesOf(t, pages)
	for i, s := range got {
		w := ""
		if i < len(want) {
			w = want[i]
		}
		if s != w {
			t.Errorf("%s: place %d: %q, want %q", what, i, s, w)
		}
	}
	if len(want) > len(got) {
		t.Errorf("%s: %d places, want %d entries", what, len(got), len(want))
	}
}

func TestExample(t *testing.T) {
	pages := reckoned(t, example(), nine())
	if len(pages) != 1 {
		t.Fatalf("%d pages", len(pages))
	}
	stands(t, "the example", pages,
		"> wage ......................................................... 5000.00",
		"  total ........................................................ 2000.00",
		"[kid] 1 of 2",
		"  kid row 2:",
		">   age .............................................................. 9",
		"    credit ..................................................... 2000.00",
	)
	l := linesOf(t, pages[0])
	if l[0] != "kids 2025                                                    page 1 of 1" {
		t.Errorf("the head: %q", l[0])
	}
	if l[1] != "========================================================================" {
		t.Errorf("the rule: %q", l[1])
	}
	if l[39] != footOf(pages[0][:39*73]) {
		t.Errorf("the foot: %q, want %q", l[39], footOf(pages[0][:39*73]))
	}
	reads(t, "the example", example(), pages, nine())
}

func TestP18_1Heads(t *testing.T) {
	for _, x := range []struct {
		name string
		year int
		want string
	}{
		{"a", 1900, "a 1900" + strings.Repeat(" ", 55) + "page 1 of 1"},
		{"abcdefghijkl", 2199, "abcdefghijkl 2199" + strings.Repeat(" ", 44) + "page 1 of 1"},
		{"a_1", 2000, "a_1 2000" + strings.Repeat(" ", 53) + "page 1 of 1"},
	} {
		p := example()
		p.Name, p.Year = x.name, x.year
		pages := reckoned(t, p, cells{})
		if l := linesOf(t, pages[0]); l[0] != x.want {
			t.Errorf("%q, want %q", l[0], x.want)
		}
		reads(t, x.name, p, pages, cells{})
	}
}

func TestP18_1EachPageHasItsFrame(t *testing.T) {
	p := greatest()
	pages := reckoned(t, p, allUsed(t, p))
	if len(pages) != 8 {
		t.Fatalf("%d pages", len(pages))
	}
	for i, page := range pages {
		l := linesOf(t, page)
		if want := "great 2024" + strings.Repeat(" ", 51) + fmt.Sprintf("page %d of 8", i+1); l[0] != want {
			t.Errorf("the head: %q, want %q", l[0], want)
		}
		if l[1] != strings.Repeat("=", 72) || l[39] != footOf(strings.Join(l[:39], "\n")+"\n") {
			t.Errorf("page %d: %q, %q", i, l[1], l[39])
		}
	}
}

// Sums whose highest digits are 0 have eight digits all the same.
func TestP18_1FeetHaveEightDigits(t *testing.T) {
	seen := tally{}
	for wage := range int64(3000) {
		in := nine().with(0, cent(wage))
		pages := reckoned(t, example(), in)
		foot := linesOf(t, pages[0])[39]
		if foot != footOf(pages[0][:39*73]) {
			t.Fatalf("wage %d: %q, want %q", wage, foot, footOf(pages[0][:39*73]))
		}
		for n := 1; n <= 2; n++ {
			if strings.HasPrefix(foot[64:], strings.Repeat("0", n)) {
				seen[fmt.Sprint(n, " zeros")]++
				reads(t, foot, example(), pages, in)
			}
		}
		if strings.Trim(foot[64:], "0123456789") != "" {
			seen["letters"]++
		}
	}
	seen.atLeast(t, 2, "1 zeros", "2 zeros", "letters")
}

// As many pages as are needed: 37 entries have one, one more has another.
func TestP18_2HowManyPages(t *testing.T) {
	for _, x := range []struct{ lines, checks, pages int }{{1, 0, 1}, {36, 0, 1}, {37, 0, 1}, {30, 7, 1}, {38, 0, 2}, {37, 1, 2}, {48, 0, 2}, {48, 16, 2}} {
		p := plain(x.lines, x.checks)
		pages := reckoned(t, p, cells{})
		if len(pages) != x.pages {
			t.Errorf("%d lines, %d checks: %d pages, want %d", x.lines, x.checks, len(pages), x.pages)
		}
		var want []string
		for i := range x.lines {
			want = append(want, entry("> "+named("l", i), "-"))
		}
		for i := range x.checks {
			want = append(want, entry("! "+named("c", i), "no"))
		}
		stands(t, "plain", pages, want...)
		reads(t, "plain", p, pages, cells{})
	}
}

// Rows that are used one behind the other: 4 to 260 entries, one to eight pages.
func TestP18_2OneToEightPages(t *testing.T) {
	p := greatest()
	m := modelOf(t, p)
	in, seen := cells{}, tally{}
	for turn := -1; turn < 32; turn++ {
		if turn >= 0 {
			in[m.flag(turn%4, turn/4)] = yes
		}
		vals := worth(t, p, in)
		want := m.entries(in, vals)
		pages := printed(t, p, in, vals)
		if len(pages) != (len(want)+36)/37 {
			t.Errorf("%d entries: %d pages", len(want), len(pages))
		}
		seen[fmt.Sprint(len(pages))]++
		stands(t, fmt.Sprint(turn), pages, want...)
		reads(t, fmt.Sprint(turn), p, pages, in)
		if turn == 31 && len(want) != 260 {
			t.Errorf("%d entries", len(want))
		}
	}
	seen.atLeast(t, 1, "1", "2", "3", "4", "5", "6", "7", "8")
}

func TestP18_3Order(t *testing.T) {
	stands(t, "all rows", printed(t, mixed(), full(), mixedValues()),
		entry("> c", ":big"), entry("  f", ":small"), entry("> h", "1900-01-01"),
		"[early] 3 of 3",
		"  early row 1:", entry(">   b", "1.00"), entry("    d", "0.05"), entry(">   g", "1"),
		"  early row 2:", entry(">   b", "2.00"), entry("    d", "#over"), entry(">   g", "-"),
		"  early row 3:", entry(">   b", "-"), entry("    d", "-"), entry(">   g", "3"),
		"[bare] 2 of 2", "  bare row 1:", "  bare row 2:",
		"[late] 1 of 1", "  late row 1:", entry(">   a", "-0.01"), entry(">   e", "yes"),
		entry("! l", "yes"), entry("! o", "no"),
		entry("! k.1", "yes"), entry("! k.2", "no"), entry("! k.3", "-"), entry("! m.1", "#needed"), entry("! n.1", "no"), entry("! n.2", "yes"),
	)
	stands(t, "no row", printed(t, mixed(), cells{}, mixedValues()),
		entry("> c", "-"), entry("  f", ":small"), entry("> h", "-"), "[early] 0 of 3", "[bare] 0 of 2", "[late] 0 of 1", entry("! l", "yes"), entry("! o", "no"),
	)
	stands(t, "some rows", printed(t, mixed(), full().without(14, 1, 10, 16, 12, 17, 19, 0, 8), mixedValues()),
		entry("> c", ":big"), entry("  f", ":small"), entry("> h", "1900-01-01"),
		"[early] 1 of 3", "  early row 2:", entry(">   b", "2.00"), entry("    d", "#over"), entry(">   g", "-"),
		"[bare] 1 of 2", "  bare row 2:", "[late] 0 of 1", entry("! l", "yes"), entry("! o", "no"), entry("! k.2", "no"), entry("! n.2", "yes"),
	)
	reads(t, "all rows", mixed(), printed(t, mixed(), full(), mixedValues()), full())
}

// The inputs' flags tell which rows are used, whatever vals hold there.
func TestP18_3FlagsAreTheInputs(t *testing.T) {
	for _, v := range []api.Value{yes, no, blank, fault(9)} {
		vals := mixedValues()
		for flag := 14; flag < 20; flag++ {
			vals[flag] = v
		}
		stands(t, "one row", printed(t, mixed(), cells{18: yes}, vals),
			entry("> c", "-"), entry("  f", ":small"), entry("> h", "-"), "[early] 0 of 3", "[bare] 1 of 2", "  bare row 2:", "[late] 0 of 1", entry("! l", "yes"), entry("! o", "no"), entry("! n.2", "yes"),
		)
	}
}

// long: names of twelve bytes throughout, in a group of eight rows.
func long() api.Pack {
	p := api.Pack{
		Name: "abcdefghijkl", Year: 2199, Groups: []api.Group{{Name: "groupgroup_1", Rows: 8}},
		Options: []api.Options{{Name: "choices_of_1", Names: []string{"option_one_1", "o"}}},
		Lines:   []api.Line{input("linelineli_1", api.Cents, -1), input("linelineli_2", api.Cents, 0), computed("linelineli_3", api.Cents, 0, line(1)), chosen(input("linelineli_4", 0, 0)), computed("linelineli_5", api.Cents, -1, line(0))},
		Checks:  []api.Check{check("checkcheck_1", -1), check("checkcheck_2", 0)},
	}
	return p
}

func TestP18_4LongestNamesAndTexts(t *testing.T) {
	p := long()
	in := cells{0: cent(-api.MaxCents), 8: cent(-api.MaxCents), 24: option(0)}
	m := modelOf(t, p)
	in[m.flag(0, 7)] = yes
	vals := worth(t, p, in)
	vals[m.check(0, 0)], vals[m.check(1, 7)] = fault(api.Needed), fault(api.Needed)
	pages := printed(t, p, in, vals)
	stands(t, "long", pages,
		"> linelineli_1 ......................................... -99999999999.99",
		"  linelineli_5 ......................................... -99999999999.99",
		"[groupgroup_1] 1 of 8",
		"  groupgroup_1 row 8:",
		">   linelineli_2 ....................................... -99999999999.99",
		"    linelineli_3 ....................................... -99999999999.99",
		">   linelineli_4 ......................................... :option_one_1",
		"! checkcheck_1 ................................................. #needed",
		"! checkcheck_2.8 ............................................... #needed",
	)
	reads(t, "long", p, pages, in)
}

func TestP18_5GroupsAndRows(t *testing.T) {
	p := long()
	m := modelOf(t, p)
	in := cells{}
	for row := 8; row >= 0; row-- {
		if row < 8 {
			in[m.flag(0, row)] = yes
		}
		pages := reckoned(t, p, in)
		l := placesOf(t, pages)
		if want := fmt.Sprintf("[groupgroup_1] %d of 8", 8-row); l[2] != want {
			t.Errorf("%q, want %q", l[2], want)
		}
		for n := row; n < 8; n++ {
			if want := fmt.Sprintf("  groupgroup_1 row %d:", n+1); l[3+4*(n-row)] != want {
				t.Errorf("%q, want %q", l[3+4*(n-row)], want)
			}
		}
		reads(t, "rows", p, pages, in)
	}
}

// every: a line of each kind, inputs first (cells 0 to 4), then computed ones (5 to 9), and a check (10).
func every() api.Pack {
	p := api.Pack{Name: "every", Year: 2024, Options: []api.Options{{Name: "eight", Names: []string{"a", "b", "c", "d", "e", "f", "g", "h"}}, {Name: "two", Names: []string{"b", "a"}}}}
	for kind := api.Cents; kind <= api.Choice; kind++ {
		p.Lines = append(p.Lines, input(named("i", kind), kind, -1))
	}
	for kind := api.Cents; kind <= api.Choice; kind++ {
		p.Lines = append(p.Lines, computed(named("c", kind), kind, -1, line(kind-1)))
	}
	p.Lines[4].Options, p.Lines[9].Options = 0, 0
	p.Checks = []api.Check{check("k", -1)}
	return p
}

func TestP18_6Texts(t *testing.T) {
	p := every()
	for _, x := range []struct {
		v    api.Value
		want string
	}{
		{cent(0), "0.00"}, {cent(5), "0.05"}, {cent(-5), "-0.05"}, {cent(-100), "-1.00"}, {cent(10), "0.10"}, {cent(123456), "1234.56"}, {cent(api.MaxCents), "99999999999.99"}, {cent(-api.MaxCents), "-99999999999.99"},
		{num(0), "0"}, {num(7), "7"}, {num(-7), "-7"}, {num(10), "10"}, {num(api.MaxCount), "1000000000"}, {num(-api.MaxCount), "-1000000000"},
		{no, "no"}, {yes, "yes"},
		{date(0), "1900-01-01"}, {date(58), "1900-02-28"}, {date(59), "1900-03-01"}, {date(36583), "2000-02-29"}, {date(api.MaxDay), "2199-12-31"},
		{option(0), ":a"}, {option(1), ":b"}, {option(7), ":h"},
	} {
		for _, cell := range []uint32{uint32(x.v.Kind - 1), uint32(x.v.Kind + 4)} {
			in, vals := cells{}, make([]api.Value, 11)
			mark := "  " + named("c", x.v.Kind)
			if cell < 5 {
				in[cell] = x.v
				mark = "> " + named("i", x.v.Kind)
			} else {
				vals[cell] = x.v
			}
			pages := printed(t, p, in, vals)
			if got := placesOf(t, pages)[cell]; got != entry(mark, x.want) {
				t.Errorf("%v: %q, want %q", x.v, got, entry(mark, x.want))
			}
			reads(t, x.want, p, pages, in)
		}
	}
}

func TestP18_6BlanksAndFaults(t *testing.T) {
	p := every()
	for i, want := range []string{"-", "#over", "#zero", "#needed", "#range", "#wrong"} {
		v := fault(int64(i))
		if i == 0 {
			v = blank
		}
		pages := printed(t, p, cells{}, slices.Repeat([]api.Value{v}, 11))
		l := placesOf(t, pages)
		for kind := api.Cents; kind <= api.Choice; kind++ {
			if l[kind-1] != entry("> "+named("i", kind), "-") || l[kind+4] != entry("  "+named("c", kind), want) {
				t.Errorf("%q, %q, want %s", l[kind-1], l[kind+4], want)
			}
		}
		if l[10] != entry("! k", want) {
			t.Errorf("%q, want %s", l[10], want)
		}
		reads(t, want, p, pages, cells{})
	}
}

// Options are written by their line's own table.
func TestP18_6OptionsOfTheirTable(t *testing.T) {
	p := every()
	p.Lines[4].Options, p.Lines[9] = 1, chosen(computed("x", 0, -1, of(api.OpChoice, 0)))
	vals := make([]api.Value, 11)
	vals[9] = option(1)
	pages := printed(t, p, cells{4: option(1)}, vals)
	if l := placesOf(t, pages); l[4] != entry("> "+named("i", 5), ":a") || l[9] != entry("  x", ":b") {
		t.Errorf("%q, %q", l[4], l[9])
	}
	reads(t, "two tables", p, pages, cells{4: option(1)})
}

func TestP18_7HowManyValues(t *testing.T) {
	vals := worth(t, example(), nine())
	bad := mapOf(cells{99: yes})
	for _, n := range []int{0, 1, 7, 9, 256, 257} {
		l := slices.Repeat(vals, 33)[:n]
		refuses(t, "values", example(), mapOf(nine()), l, api.ErrSheetSize)
		refuses(t, "values, and inputs that don't fit", example(), bad, l, api.ErrSheetSize)
		for i := range l {
			l[i] = fault(9)
		}
		refuses(t, "values that may not be", example(), nil, l, api.ErrSheetSize)
	}
	refuses(t, "nil", example(), nil, nil, api.ErrSheetSize)
	refuses(t, "empty", example(), trie.Empty(), []api.Value{}, api.ErrSheetSize)
}

func TestP18_7InputsThatDoNotFit(t *testing.T) {
	vals := worth(t, example(), nine())
	for what, in := range map[string]cells{
		"no cell": nine().with(8, cent(1)), "far from a cell": nine().with(1<<31, cent(1)), "a computed cell": nine().with(4, cent(200000)), "another one": nine().with(5, cent(200000)),
		"a flag that isn't set": nine().with(6, no), "a flag of another kind": nine().with(7, num(1)), "a blank": nine().with(0, blank), "another kind": nine().with(0, num(1)), "a fault": nine().with(0, fault(api.Over)),
		"beyond the bound": nine().with(0, cent(api.MaxCents+1)), "a row that isn't used": nine().with(1, num(9)), "the row that isn't used any more": nine().without(7),
	} {
		refuses(t, what, example(), mapOf(in), vals, api.ErrSheetValue)
	}
	p := every()
	refuses(t, "no option", p, mapOf(cells{4: option(8)}), make([]api.Value, 11), api.ErrSheetValue)
	p.Lines[4].Options, p.Lines[9].Options = 1, 1
	refuses(t, "no option of its table", p, mapOf(cells{4: option(2)}), make([]api.Value, 11), api.ErrSheetValue)
}

// What may stand in a cell that isn't an input's, printed or not.
func TestP18_7Values(t *testing.T) {
	p := every()
	p.Groups = []api.Group{{Name: "g", Rows: 2}}
	for i := range 10 {
		p.Lines[i].Group = 0
	}
	p.Checks[0].Group = 0
	m := modelOf(t, p)
	all := []api.Value{
		blank, val(api.Blank, 1), val(api.Blank, -1), cent(0), cent(api.MaxCents), cent(api.MaxCents + 1), cent(-api.MaxCents - 1), num(1), num(api.MaxCount), num(api.MaxCount + 1), num(-api.MaxCount - 1),
		yes, no, val(api.Flag, 2), val(api.Flag, -1), date(0), date(-1), date(api.MaxDay), date(api.MaxDay + 1), option(0), option(7), option(8), option(-1),
		fault(0), fault(1), fault(5), fault(6), fault(-1), val(7, 0), val(-1, 0), val(1<<40, 1<<40),
	}
	valid := func(v api.Value) bool {
		bounds := [][2]int64{{0, 0}, {-api.MaxCents, api.MaxCents}, {-api.MaxCount, api.MaxCount}, {0, 1}, {0, api.MaxDay}, {0, 7}, {1, 5}}
		return v.Kind >= 0 && v.Kind <= 6 && v.Num >= bounds[v.Kind][0] && v.Num <= bounds[v.Kind][1]
	}
	for _, in := range []cells{{}, {m.flag(0, 1): yes}, allUsed(t, p)} {
		for cell := range m.graph.Cells() {
			place, _ := m.graph.Place(cell)
			for _, v := range all {
				vals := make([]api.Value, m.graph.Cells())
				vals[cell] = v
				kind := api.Flag
				if place.Kind == api.PlaceLine {
					kind = p.Lines[place.Index].Type
				}
				free := place.Kind == api.PlaceFlag || place.Kind == api.PlaceLine && p.Lines[place.Index].Input
				want := api.ErrSheetValue
				if free || valid(v) && (v.Kind == api.Blank || v.Kind == api.Fault || v.Kind == kind) {
					want = api.OK
				}
				if pages, e := sheet.Print(p, mapOf(in), vals); e != want || (len(pages) > 0) != (e == api.OK) {
					t.Errorf("%v at %d: error %d, want %d", v, cell, e, want)
				}
			}
		}
	}
}

// Choices that are none of the line's table, though of another one.
func TestP18_7OptionsOfTheLine(t *testing.T) {
	p := every()
	p.Lines[9] = chosen(computed("x", 0, -1, api.Expr{Op: api.OpChoice, Den: 1}))
	p.Lines[9].Options = 1
	vals := make([]api.Value, 11)
	for n, want := range []api.Errno{api.OK, api.OK, api.ErrSheetValue, api.ErrSheetValue} {
		vals[9] = option(int64(n))
		if _, e := sheet.Print(p, nil, vals); e != want {
			t.Errorf("option %d: error %d, want %d", n, e, want)
		}
	}
}

// The last cell counts as the first one does.
func TestP18_7EachCellIsLookedAt(t *testing.T) {
	p := greatest()
	m, in := modelOf(t, p), allUsed(t, p)
	for _, i := range []cells{{}, in} {
		for cell := range m.graph.Cells() {
			vals := worth(t, p, i)
			vals[cell] = val(9, 9)
			place, _ := m.graph.Place(cell)
			want := api.ErrSheetValue
			if place.Kind == api.PlaceFlag || place.Kind == api.PlaceLine && place.Index < 24 {
				want = api.OK
			}
			if _, e := sheet.Print(p, mapOf(i), vals); e != want {
				t.Errorf("cell %d: error %d, want %d", cell, e, want)
			}
		}
	}
}

func TestP18_7NoMapIsTheEmptyOne(t *testing.T) {
	vals := worth(t, example(), cells{})
	a, e := sheet.Print(example(), nil, vals)
	if b := reckoned(t, example(), cells{}); e != api.OK || !slices.Equal(a, b) {
		t.Errorf("error %d: %q, want %q", e, a, b)
	}
	reads(t, "no inputs", example(), a, cells{})
}
