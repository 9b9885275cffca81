package types_test

import (
	"strings"
	"testing"

	"levy/api"
)

// A table of faults a promise: each list stands in the order in which the page looks for them.

func TestP6_1WellFormed(t *testing.T) {
	wellFormed(t, "the sample", sample())
	wellFormed(t, "one input alone", api.Pack{Name: "p", Year: 2000, Lines: []api.Line{input("a", api.Cents, -1, -1)}})
	p := sample()
	p.Options, p.Tables, p.Groups, p.Checks = []api.Options{}, []api.Table{}, []api.Group{}, []api.Check{}
	p.Lines = []api.Line{{Name: "a", Input: true, Type: api.Day, Options: -1, Group: -1, Clauses: []api.Clause{}}}
	wellFormed(t, "empty lists instead of nil", p)
}

func TestP6_1FirstFaultOfTwo(t *testing.T) {
	l := allBends()
	for j := range l {
		for i := range j {
			p := sample()
			l[j].does(&p)
			l[i].does(&p)
			checks(t, l[i].what+", and "+l[j].what, p, l[i].spot, l[i].errno)
		}
	}
}

func allBends() []bend {
	var l []bend
	for _, f := range []func() []bend{sizeBends, headBends, optionsBends, tableBends, groupBends, lineBends, checkBends, exprBends} {
		l = append(l, f()...)
	}
	return l
}

func sizeBends() []bend {
	return []bend{
		{"five options' tables", func(p *api.Pack) { p.Options = make([]api.Options, 5) }, spot(2, 0, -1), api.ErrTypeSize},
		{"five bracket tables", func(p *api.Pack) { p.Tables = make([]api.Table, 5) }, spot(3, 0, -1), api.ErrTypeSize},
		{"five groups", func(p *api.Pack) { p.Groups = make([]api.Group, 5) }, spot(4, 0, -1), api.ErrTypeSize},
		{"no line", func(p *api.Pack) { p.Lines = nil }, spot(5, 0, -1), api.ErrTypeSize},
		{"49 lines", func(p *api.Pack) { p.Lines = make([]api.Line, 49) }, spot(5, 0, -1), api.ErrTypeSize},
		{"17 checks", func(p *api.Pack) { p.Checks = make([]api.Check, 17) }, spot(6, 0, -1), api.ErrTypeSize},
	}
}

func TestP6_2Sizes(t *testing.T) {
	bends(t, sizeBends())
	p := full()
	if len(p.Options) != 4 || len(p.Tables) != 4 || len(p.Groups) != 4 || len(p.Lines) != 48 || len(p.Checks) != 16 {
		t.Fatal("the pack isn't full")
	}
	wellFormed(t, "as many of everything as may be", p)
	p.Options, p.Tables, p.Groups, p.Checks = nil, nil, nil, nil
	p.Lines = []api.Line{p.Lines[0]}
	wellFormed(t, "as few of everything as may be", p)
	p.Lines = []api.Line{}
	p.Name, p.Year = "", 0
	checks(t, "an empty list of lines", p, spot(5, 0, -1), api.ErrTypeSize)
	checks(t, "the zero pack", api.Pack{}, spot(5, 0, -1), api.ErrTypeSize)
	p = sample()
	p.Options = make([]api.Options, 1000)
	checks(t, "1000 options' tables", p, spot(2, 0, -1), api.ErrTypeSize)
}

// full: a pack that has as many of everything as it may have.
func full() api.Pack {
	p := sample()
	for n := len(p.Options); n < 4; n++ {
		p.Options = append(p.Options, api.Options{Name: named("o_", n), Names: []string{"a", "b", "c", "d", "e", "f", "g", "h"}})
	}
	for n := len(p.Tables); n < 4; n++ {
		p.Tables = append(p.Tables, api.Table{Name: named("t_", n), Bands: []api.Band{{}, {From: 1}, {From: 2}, {From: 3}, {From: 4}, {From: 5}, {From: 6}, {From: 7, Rate: 1000000}}})
	}
	for n := len(p.Groups); n < 4; n++ {
		p.Groups = append(p.Groups, api.Group{Name: named("g_", n), Rows: 8})
	}
	for n := len(p.Lines); n < 48; n++ {
		p.Lines = append(p.Lines, api.Line{Name: named("l_", n), Type: api.Count, Options: -1, Group: n%5 - 1, Clauses: []api.Clause{
			{Body: count(0)}, guarded(6), guarded(5), guarded(9), guarded(1), guarded(2),
		}})
	}
	for n := len(p.Checks); n < 16; n++ {
		p.Checks = append(p.Checks, api.Check{Name: named("c_", n), Group: -1, Text: strings.Repeat("~", 40), When: flag(0)})
	}
	return p
}

func guarded(priority int) api.Clause {
	return api.Clause{Priority: priority, Guarded: true, Guard: flag(1), Body: count(int64(priority))}
}

func headBends() []bend {
	return []bend{
		{"the pack's name", func(p *api.Pack) { p.Name = "Sample" }, spot(1, 0, -1), api.ErrTypeName},
		{"the pack's year", func(p *api.Pack) { p.Year = 1899 }, spot(1, 0, -1), api.ErrTypeSize},
	}
}

func TestP6_3Head(t *testing.T) {
	bends(t, headBends())
	for year, errno := range map[int]api.Errno{1899: api.ErrTypeSize, 1900: api.OK, 2199: api.OK, 2200: api.ErrTypeSize, 0: api.ErrTypeSize, -2000: api.ErrTypeSize} {
		p := sample()
		p.Year = year
		if errno == api.OK {
			wellFormed(t, "a year", p)
		} else {
			checks(t, "a year", p, spot(1, 0, -1), errno)
		}
	}
	p := sample()
	p.Name = "tax"
	wellFormed(t, "the pack has a line's name: it isn't of the space", p)
	everyName(t, func(p *api.Pack, s string) { p.Name = s }, spot(1, 0, -1))
}

// The names that are some and those that are none.
var goodNames = []string{"a", "z", "a_", "abcdefghijkl", "a23456789012", "x_______0_99", "z09_az", "pack", "if"}
var badNames = []string{"", "_", "_a", "0", "9a", "A", "aB", "a-b", "a b", " a", "a ", "a.", "abcdefghijklm", "{", "`", "a`", "a{", "a/", "a:", "a^", "ä", "aé", "a\x00", "\xff", "a\n"}

func everyName(t *testing.T, put func(p *api.Pack, s string), want api.Spot) {
	t.Helper()
	for _, s := range goodNames {
		p := sample()
		put(&p, s)
		wellFormed(t, "the name "+s, p)
	}
	for _, s := range badNames {
		p := sample()
		put(&p, s)
		checks(t, "the name "+s, p, want, api.ErrTypeName)
	}
	for b := range 256 {
		good := b >= 'a' && b <= 'z'
		later := good || b >= '0' && b <= '9' || b == '_'
		for s, ok := range map[string]bool{string([]byte{byte(b), 'q', '7'}): good, string([]byte{'q', byte(b), '7'}): later, string([]byte{'q', '7', byte(b)}): later} {
			p := sample()
			put(&p, s)
			if ok {
				wellFormed(t, "the name "+s, p)
			} else {
				checks(t, "the name "+s, p, want, api.ErrTypeName)
			}
		}
	}
}

func optionsBends() []bend {
	return []bend{
		{"options' table 0: name", func(p *api.Pack) { p.Options[0].Name = "" }, spot(2, 0, -1), api.ErrTypeName},
		{"options' table 0: no options", func(p *api.Pack) { p.Options[0].Names = nil }, spot(2, 0, -1), api.ErrTypeSize},
		{"options' table 0: option 1's name", func(p *api.Pack) { p.Options[0].Names = []string{"single", "J", "widow"} }, spot(2, 0, -1), api.ErrTypeName},
		{"options' table 0: option 2 twice", func(p *api.Pack) { p.Options[0].Names = []string{"single", "joint", "single"} }, spot(2, 0, -1), api.ErrTypeTwice},
		{"options' table 1: name twice", func(p *api.Pack) { p.Options[1].Name = "status" }, spot(2, 1, -1), api.ErrTypeTwice},
		{"options' table 1: nine options", func(p *api.Pack) { p.Options[1].Names = make([]string, 9) }, spot(2, 1, -1), api.ErrTypeSize},
		{"options' table 1: option 0 twice", func(p *api.Pack) { p.Options[1].Names = []string{"small", "small", ""} }, spot(2, 1, -1), api.ErrTypeTwice},
	}
}

func TestP6_4Options(t *testing.T) {
	bends(t, optionsBends())
	everyName(t, func(p *api.Pack, s string) { p.Options[1].Name = s }, spot(2, 1, -1))
	everyName(t, func(p *api.Pack, s string) { p.Options[1].Names[1] = s }, spot(2, 1, -1))
	p := sample()
	p.Options[1].Names = []string{"single", "tax", "sample", "size", "status"}
	wellFormed(t, "options have names of their own, apart from all others", p)
	p.Options[1].Names = strings.Split("abcdefgh", "")
	wellFormed(t, "eight options", p)
	p.Options[1].Names = []string{"", "a", "a"}
	checks(t, "a name that is none ahead of one that stands twice", p, spot(2, 1, -1), api.ErrTypeName)
	p.Options[1].Names = []string{"a", "a", ""}
	checks(t, "a name that stands twice ahead of one that is none", p, spot(2, 1, -1), api.ErrTypeTwice)
}

func TestP6_4OneSpace(t *testing.T) {
	places := []struct {
		spot api.Spot
		name func(p *api.Pack) *string
	}{
		{spot(2, 0, -1), func(p *api.Pack) *string { return &p.Options[0].Name }},
		{spot(2, 1, -1), func(p *api.Pack) *string { return &p.Options[1].Name }},
		{spot(3, 0, -1), func(p *api.Pack) *string { return &p.Tables[0].Name }},
		{spot(3, 1, -1), func(p *api.Pack) *string { return &p.Tables[1].Name }},
		{spot(4, 0, -1), func(p *api.Pack) *string { return &p.Groups[0].Name }},
		{spot(4, 1, -1), func(p *api.Pack) *string { return &p.Groups[1].Name }},
		{spot(5, 0, -1), func(p *api.Pack) *string { return &p.Lines[0].Name }},
		{spot(5, lineTax, -1), func(p *api.Pack) *string { return &p.Lines[lineTax].Name }},
		{spot(5, linePick, -1), func(p *api.Pack) *string { return &p.Lines[linePick].Name }},
		{spot(6, 0, -1), func(p *api.Pack) *string { return &p.Checks[0].Name }},
		{spot(6, 1, -1), func(p *api.Pack) *string { return &p.Checks[1].Name }},
	}
	for j := range places {
		for i := range j {
			p := sample()
			*places[i].name(&p), *places[j].name(&p) = "same", "same"
			checks(t, "a name that stands already", p, places[j].spot, api.ErrTypeTwice)
		}
	}
}

func tableBends() []bend {
	return []bend{
		{"bracket table 0: name twice", func(p *api.Pack) { p.Tables[0].Name = "size" }, spot(3, 0, -1), api.ErrTypeTwice},
		{"bracket table 0: no bands", func(p *api.Pack) { p.Tables[0].Bands = nil }, spot(3, 0, -1), api.ErrTypeSize},
		{"bracket table 0: a rate", func(p *api.Pack) { p.Tables[0].Bands = []api.Band{{Rate: -1}} }, spot(3, 0, -1), api.ErrTypeTable},
		{"bracket table 1: name", func(p *api.Pack) { p.Tables[1].Name = "x y" }, spot(3, 1, -1), api.ErrTypeName},
		{"bracket table 1: nine bands", func(p *api.Pack) { p.Tables[1].Bands = make([]api.Band, 9) }, spot(3, 1, -1), api.ErrTypeSize},
		{"bracket table 1: from 1", func(p *api.Pack) { p.Tables[1].Bands = []api.Band{{From: 1}} }, spot(3, 1, -1), api.ErrTypeTable},
	}
}

// bands: each a From and a Rate.
func bands(l []int64) []api.Band {
	var out []api.Band
	for i := 0; i < len(l); i += 2 {
		out = append(out, api.Band{From: l[i], Rate: l[i+1]})
	}
	return out
}

func TestP6_5Tables(t *testing.T) {
	bends(t, tableBends())
	everyName(t, func(p *api.Pack, s string) { p.Tables[1].Name = s }, spot(3, 1, -1))
	for _, l := range [][]int64{
		{0, 0}, {0, 1000000}, {0, 5, 1, 4}, {0, 5, api.MaxCents, 1000000}, {0, 5, api.MaxCents - 1, 0, api.MaxCents, 0},
		{0, 1, 1, 1, 2, 1, 3, 1, 4, 1, 5, 1, 6, 1, 7, 1},
	} {
		p := sample()
		p.Tables[1].Bands = bands(l)
		wellFormed(t, text(l), p)
	}
	for _, l := range [][]int64{
		{1, 0}, {-1, 0}, {-1, 0, 0, 0}, {0, -1}, {0, 1000001}, {0, 1, 0, 1}, {0, 1, -1, 1}, {0, 1, 5, 1, 5, 1}, {0, 1, 5, 1, 4, 1},
		{0, 1, api.MaxCents + 1, 1}, {0, 1, 5, -1}, {0, 1, 5, 1000001}, {0, 1, 5, 1, 9, 1000001}, {0, 1, 5, 1, 1 << 62, 1}, {0, 1, -1 << 63, 1}, {0, 1 << 62}, {0, -1 << 63},
	} {
		p := sample()
		p.Tables[1].Bands = bands(l)
		checks(t, text(l), p, spot(3, 1, -1), api.ErrTypeTable)
	}
}

func groupBends() []bend {
	return []bend{
		{"group 0: name", func(p *api.Pack) { p.Groups[0].Name = "K" }, spot(4, 0, -1), api.ErrTypeName},
		{"group 0: rows", func(p *api.Pack) { p.Groups[0].Rows = 0 }, spot(4, 0, -1), api.ErrTypeGroup},
		{"group 1: name twice", func(p *api.Pack) { p.Groups[1].Name = "flat" }, spot(4, 1, -1), api.ErrTypeTwice},
		{"group 1: rows", func(p *api.Pack) { p.Groups[1].Rows = 9 }, spot(4, 1, -1), api.ErrTypeGroup},
	}
}

func TestP6_5Groups(t *testing.T) {
	bends(t, groupBends())
	everyName(t, func(p *api.Pack, s string) { p.Groups[1].Name = s }, spot(4, 1, -1))
	for rows := -2; rows < 12; rows++ {
		p := sample()
		p.Groups[0].Rows = rows
		if rows >= 1 && rows <= 8 {
			wellFormed(t, "a group's rows", p)
		} else {
			checks(t, "a group's rows", p, spot(4, 0, -1), api.ErrTypeGroup)
		}
	}
}

func checkBends() []bend {
	return []bend{
		{"check 0: name", func(p *api.Pack) { p.Checks[0].Name = "" }, spot(6, 0, -1), api.ErrTypeName},
		{"check 0: group", func(p *api.Pack) { p.Checks[0].Group = 2 }, spot(6, 0, -1), api.ErrTypeGroup},
		{"check 0: text", func(p *api.Pack) { p.Checks[0].Text = "" }, spot(6, 0, -1), api.ErrTypeName},
		{"check 1: name twice", func(p *api.Pack) { p.Checks[1].Name = "kid" }, spot(6, 1, -1), api.ErrTypeTwice},
		{"check 1: group", func(p *api.Pack) { p.Checks[1].Group = -2 }, spot(6, 1, -1), api.ErrTypeGroup},
		{"check 1: text", func(p *api.Pack) { p.Checks[1].Text = "a\tb" }, spot(6, 1, -1), api.ErrTypeName},
		{"too many cells", manyCells, spot(1, 0, -1), api.ErrTypeSize},
	}
}

// manyCells fills a pack up with lines of a group of eight rows, behind those that it has.
func manyCells(p *api.Pack) {
	p.Groups[1].Rows = 8
	for n := len(p.Lines); n < 48; n++ {
		p.Lines = append(p.Lines, input(named("l_", n), api.Flag, -1, 1))
	}
}

func TestP6_7Checks(t *testing.T) {
	bends(t, checkBends())
	everyName(t, func(p *api.Pack, s string) { p.Checks[1].Name = s }, spot(6, 1, -1))
	for b := range 256 {
		p := sample()
		for _, s := range [][]byte{{byte(b)}, {'x', byte(b)}, {byte(b), 'x'}} {
			p.Checks[1].Text = string(s)
			if b >= 0x20 && b <= 0x7e {
				wellFormed(t, "a check's text", p)
			} else {
				checks(t, "a check's text", p, spot(6, 1, -1), api.ErrTypeName)
			}
		}
	}
	p := sample()
	p.Checks[1].Text = strings.Repeat(" ", 40)
	wellFormed(t, "40 bytes of text", p)
	p.Checks[1].Text += " "
	checks(t, "41 bytes of text", p, spot(6, 1, -1), api.ErrTypeName)
	p = sample()
	p.Checks[1].Group = 1
	p.Checks[1].When = line(slipF)
	wellFormed(t, "a check of the last group", p)
}

func TestP6_7ManyCells(t *testing.T) {
	p := api.Pack{Name: "p", Year: 2000, Groups: []api.Group{{Name: "g", Rows: 8}, {Name: "h", Rows: 1}}}
	for n := range 30 {
		p.Lines = append(p.Lines, input(named("l", n), api.Cents, -1, 0))
	}
	for n := range 6 {
		p.Checks = append(p.Checks, api.Check{Name: named("c", n), Group: 1, Text: "x", When: flag(1)})
	}
	p.Checks = append(p.Checks, api.Check{Name: "last", Group: -1, Text: "x", When: flag(1)})
	wellFormed(t, "256 cells", p)
	p.Lines = append(p.Lines, input("more", api.Cents, -1, -1))
	checks(t, "257 cells", p, spot(1, 0, -1), api.ErrTypeSize)
	p.Checks[6].When = api.Expr{}
	p.Lines[0].Clauses = []api.Clause{}
	checks(t, "257 cells, ahead of the expressions", p, spot(1, 0, -1), api.ErrTypeSize)
	p.Checks[6].Text = ""
	checks(t, "257 cells, behind the checks", p, spot(6, 6, -1), api.ErrTypeName)
}
