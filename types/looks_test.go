package types_test

import (
	"math"
	"math/rand"
	"testing"

	"levy/api"
	"levy/money"
	"levy/types"
)

func TestP6_10Line(t *testing.T) {
	p := sample()
	for i, l := range p.Lines {
		if got := types.Line(p, l.Name); got != i {
			t.Errorf("Line(%q): %d, want %d", l.Name, got, i)
		}
	}
	for _, s := range []string{"", "kid", "status", "single", "rates", "rich", "sample", "C", "ta", "taxx", "tax "} {
		if got := types.Line(p, s); got != -1 {
			t.Errorf("Line(%q): %d, want -1", s, got)
		}
	}
	p.Lines[3].Name, p.Lines[9].Name, p.Lines[12].Name = "twice", "twice", ""
	if a, b := types.Line(p, "twice"), types.Line(p, ""); a != 3 || b != 12 {
		t.Errorf("Line: %d, %d, want the first one, 3, and 12", a, b)
	}
	if got := types.Line(api.Pack{}, ""); got != -1 {
		t.Errorf("Line of no lines: %d", got)
	}
}

func TestP6_10Option(t *testing.T) {
	p := sample()
	p.Options = append(p.Options, api.Options{Names: []string{"x", "", "x", "single"}}, api.Options{Name: "x"})
	for _, c := range []struct {
		table int
		name  string
		want  int
	}{
		{0, "single", 0}, {0, "widow", 2}, {0, "small", -1}, {1, "small", 0}, {1, "big", 1}, {1, "single", -1}, {2, "x", 0}, {2, "", 1}, {2, "single", 3}, {0, "", -1}, {0, "status", -1},
		{3, "x", -1}, {3, "", -1}, {4, "single", -1}, {-1, "single", -1}, {-1, "", -1}, {math.MinInt, "single", -1}, {math.MaxInt, "single", -1},
	} {
		if got := types.Option(p, c.table, c.name); got != c.want {
			t.Errorf("Option(%d, %q): %d, want %d", c.table, c.name, got, c.want)
		}
	}
	if got := types.Option(api.Pack{}, 0, ""); got != -1 {
		t.Errorf("Option of no tables: %d", got)
	}
}

func fits(t *testing.T, p api.Pack, line int, v api.Value, want bool) {
	t.Helper()
	if types.Fits(p, line, v) != want {
		t.Errorf("Fits(%d, %+v): %v", line, v, !want)
	}
}

func TestP6_11Fits(t *testing.T) {
	p := sample()
	ranges := map[int][2]int64{lineC: {-api.MaxCents, api.MaxCents}, lineN: {-api.MaxCount, api.MaxCount}, lineF: {0, 1}, lineD: {0, api.MaxDay}, lineO: {0, 2}, lineS: {0, 1}, kidO: {0, 2}, slipC: {-api.MaxCents, api.MaxCents}, lineTax: {-api.MaxCents, api.MaxCents}, linePick: {0, 1}}
	for n, l := range ranges {
		kind := p.Lines[n].Type
		for _, num := range []int64{l[0], l[1], (l[0] + l[1]) / 2} {
			fits(t, p, n, api.Value{Kind: kind, Num: num}, true)
		}
		for _, num := range []int64{l[0] - 1, l[1] + 1, math.MinInt64, math.MaxInt64} {
			fits(t, p, n, api.Value{Kind: kind, Num: num}, false)
		}
		for other := -1; other < 9; other++ {
			if other != kind {
				fits(t, p, n, api.Value{Kind: other, Num: 1}, false)
				fits(t, p, n, api.Value{Kind: other}, other == api.Blank)
			}
		}
		fits(t, p, n, api.Value{}, true)
		fits(t, p, n, api.Value{Num: 1}, false)
		fits(t, p, n, api.Value{Num: -1}, false)
	}
	for _, n := range []int{-1, 16, math.MinInt, math.MaxInt} {
		fits(t, p, n, api.Value{}, false)
		fits(t, p, n, api.Value{Kind: api.Cents}, false)
	}
	fits(t, api.Pack{}, 0, api.Value{}, false)
}

func TestP6_11FitsAnyPack(t *testing.T) {
	names := make([]string, 20)
	p := api.Pack{Options: []api.Options{{}, {Names: names[:8]}, {Names: names}}}
	for kind := -2; kind < 9; kind++ {
		for options := -2; options < 5; options++ {
			p.Lines = []api.Line{{}, {Type: kind, Options: options, Group: 77}}
			for of := -2; of < 9; of++ {
				for num := int64(-3); num < 25; num++ {
					v := api.Value{Kind: of, Num: num}
					want := v == api.Value{}
					if kind >= 1 && kind <= 5 && of == kind && money.Valid(v) {
						want = kind != api.Choice || (options == 1 || options == 2) && num < 8
					}
					fits(t, p, 1, v, want)
				}
			}
		}
	}
	p.Lines = []api.Line{{Type: api.Choice, Options: math.MaxInt}, {Type: api.Choice, Options: math.MinInt}, {Type: api.Fault}, {Type: api.Blank}}
	for n := range p.Lines {
		fits(t, p, n, api.Value{}, true)
		for kind := 1; kind < 7; kind++ {
			fits(t, p, n, api.Value{Kind: kind, Num: 1}, false)
		}
	}
}

func TestP6_12Cells(t *testing.T) {
	p := sample()
	if got := types.Cells(p); got != 6+5*3+2*2+1+3+1+1+3+3+2 {
		t.Errorf("Cells of the sample: %d", got)
	}
	if got := types.Cells(api.Pack{}); got != 0 {
		t.Errorf("Cells of nothing: %d", got)
	}
	for rows, want := range map[int]int{math.MinInt: 0, -1: 0, 0: 0, 1: 1, 7: 7, 8: 8, 9: 8, 1000: 8, math.MaxInt: 8} {
		p = api.Pack{Groups: []api.Group{{Rows: rows}}}
		if got := types.Cells(p); got != want {
			t.Errorf("Cells of a group of %d rows: %d, want %d", rows, got, want)
		}
		p.Lines, p.Checks = []api.Line{{Group: 0}, {Group: -1}}, []api.Check{{Group: 0}, {Group: 0}, {Group: 1}}
		if got := types.Cells(p); got != 4*want+2 {
			t.Errorf("Cells in a group of %d rows: %d, want %d", rows, got, 4*want+2)
		}
	}
	for _, group := range []int{-1, -2, 2, 3, math.MinInt, math.MaxInt} {
		p = api.Pack{Groups: []api.Group{{Rows: 5}, {Rows: 6}}, Lines: []api.Line{{Group: group}}, Checks: []api.Check{{Group: group}}}
		if got := types.Cells(p); got != 5+6+2 {
			t.Errorf("Cells of group %d: %d", group, got)
		}
	}
	p = api.Pack{Lines: make([]api.Line, 100000), Checks: make([]api.Check, 1000), Groups: make([]api.Group, 100)}
	for i := range p.Groups {
		p.Groups[i].Rows = 9
	}
	if got := types.Cells(p); got != 101000*8+800 {
		t.Errorf("Cells of a great pack: %d", got)
	}
}

func TestP6_12ByChance(t *testing.T) {
	r := rand.New(rand.NewSource(612))
	for range 5000 {
		var p api.Pack
		for range r.Intn(7) {
			p.Groups = append(p.Groups, api.Group{Rows: r.Intn(13) - 2})
		}
		for range r.Intn(60) {
			p.Lines = append(p.Lines, api.Line{Group: r.Intn(10) - 2})
		}
		for range r.Intn(20) {
			p.Checks = append(p.Checks, api.Check{Group: r.Intn(10) - 2})
		}
		if got, want := types.Cells(p), modelCells(p); got != want {
			t.Fatalf("Cells(%+v): %d, want %d", p, got, want)
		}
	}
}
