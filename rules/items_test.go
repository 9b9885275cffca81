package rules_test

import (
	"strings"
	"testing"

	"levy/api"
)

func TestP5_5Example(t *testing.T) { prints(t, simplePack(), simple) }

func TestP5_5PackLine(t *testing.T) {
	reads(t, "pack a 0", api.Pack{Name: "a"})
	reads(t, "\n#\n\tpack a 1000000000\n", api.Pack{Name: "a", Year: 1000000000})
	misread(t, "pack a 1000000001", 1, 7, api.ErrWordsNumber)
	misread(t, "pack a -1", 1, 7, api.ErrRulesToken)
	misread(t, "pack a 2024.00", 1, 7, api.ErrRulesToken)
	misread(t, "pack a 2024 5", 1, 12, api.ErrRulesToken)
	misread(t, "pack a\n2024", 1, 6, api.ErrRulesToken)
	misread(t, "group g 1\npack a 2024", 1, 0, api.ErrRulesToken)
	misread(t, "pack a 2024\npack a 2024", 2, 0, api.ErrRulesToken)
}

// Each item begins with one of its words; items of all kinds may stand in any order.
func TestP5_5Items(t *testing.T) {
	for _, w := range allWords {
		if !strings.Contains(" options table group input line check ", " "+w+" ") {
			misread(t, "pack a 2024\n"+w+" b", 2, 0, api.ErrRulesToken)
		}
	}
	misread(t, "pack a 2024\nlines b cents", 2, 0, api.ErrRulesToken)
	misread(t, "pack a 2024\ngroup g 1\n(", 3, 0, api.ErrRulesToken)
	p := api.Pack{
		Name: "a", Year: 1,
		Options: []api.Options{{Name: "o", Names: []string{"x"}}, {Name: "p", Names: []string{"x"}}},
		Tables:  []api.Table{{Name: "t", Bands: []api.Band{{}}}, {Name: "u", Bands: []api.Band{{}}}},
		Groups:  []api.Group{{Name: "g", Rows: 1}, {Name: "k", Rows: 2}},
		Lines:   []api.Line{{Name: "l", Type: 1, Options: -1, Group: -1}, {Name: "m", Input: true, Type: 1, Options: -1, Group: -1}, {Name: "n", Type: 1, Options: -1, Group: -1}},
		Checks:  []api.Check{{Name: "c", Group: -1, When: flag(1)}, {Name: "d", Group: -1, When: flag(0)}},
	}
	reads(t, "pack a 1\ncheck c \"\"\nwhen yes\nline l cents\ngroup g 1\ntable t: 0.00 0%\ninput m cents\noptions o: x\ncheck d \"\"\nwhen no\ngroup k 2\ntable u: 0.00 0%\noptions p: x\nline n cents\n", p)
}

// A name may not stand twice, whatever the two kinds; the pack's own name and options' names don't count.
func TestP5_6Twice(t *testing.T) {
	items := []string{"options x: a", "table x: 0.00 1%", "group x 1", "input x cents", "line x cents", "check x \"\"\nwhen yes"}
	for _, first := range items {
		for _, second := range items {
			at := strings.Index(second, "x")
			misread(t, "pack a 1\n"+first+"\n"+second, 3+strings.Count(first, "\n"), at, api.ErrRulesTwice)
			parsed(t, "pack x 1\noptions z: x, a\n"+first+"\n"+strings.Replace(second, "x", "y", 1))
		}
	}
	// It is told at the name, ahead of what is wrong behind it.
	misread(t, "pack a 1\ngroup x 1\ninput x ) )", 3, 6, api.ErrRulesTwice)
	misread(t, "pack a 1\ngroup x ) )\ninput x cents", 2, 8, api.ErrRulesToken)
}

func TestP5_6Options(t *testing.T) {
	p := api.Pack{Name: "a", Year: 1, Options: []api.Options{{Name: "o", Names: []string{"o", "a", "x9_"}}}}
	prints(t, p, "pack a 1\noptions o: o, a, x9_\n")
	misread(t, "pack a 1\noptions o: a, b, a", 2, 17, api.ErrRulesTwice)
	misread(t, "pack a 1\noptions o: a, b, b, a", 2, 17, api.ErrRulesTwice)
	misread(t, "pack a 1\noptions o: a, a )", 2, 14, api.ErrRulesTwice)
	misread(t, "pack a 1\noptions o:", 2, 10, api.ErrRulesToken)
	misread(t, "pack a 1\noptions o: a,", 2, 13, api.ErrRulesToken)
	misread(t, "pack a 1\noptions o a", 2, 10, api.ErrRulesToken)
	parsed(t, "pack a 1\noptions o: a, b\noptions p: a, b")
	many := api.Pack{Name: "a", Options: []api.Options{{Name: "o"}}}
	for c := 'a'; c <= 'z'; c++ {
		many.Options[0].Names = append(many.Options[0].Names, string(c), string(c)+"_")
	}
	prints(t, many, "pack a 0\noptions o: "+strings.Join(many.Options[0].Names, ", ")+"\n")
}

func TestP5_6Tables(t *testing.T) {
	for s, want := range map[string]api.Band{
		"0.00 0%": {}, "0.01 100%": {From: 1, Rate: 1000000}, "1.00 0.0001%": {From: 100, Rate: 1}, "-5.00 -12.5%": {From: -500, Rate: -125000}, "5.00 -0.0001%": {From: 500, Rate: -1},
		"99999999999.99 100000%": {From: api.MaxCents, Rate: api.MaxRatio}, "-99999999999.99 -100000%": {From: -api.MaxCents, Rate: -api.MaxRatio}, "0.07 33.3333%": {From: 7, Rate: 333333},
	} {
		prints(t, api.Pack{Name: "a", Year: 1, Tables: []api.Table{{Name: "t", Bands: []api.Band{want}}}}, "pack a 1\ntable t: "+s+"\n")
	}
	reads(t, "pack a 1\ntable t: - 0.00 - 0%, 1.00 100000000000%, 1.00 -100000000000%", api.Pack{Name: "a", Year: 1, Tables: []api.Table{{Name: "t", Bands: []api.Band{{}, {From: 100, Rate: 1e15}, {From: 100, Rate: -1e15}}}}})
	misread(t, "pack a 1\ntable t: 0.00 0.00001%", 2, 14, api.ErrRulesNumber)
	misread(t, "pack a 1\ntable t: 0.00 - 0.00001% )", 2, 16, api.ErrRulesNumber)
	misread(t, "pack a 1\ntable t: 0.00 1%, 0.00 33.33333%", 2, 23, api.ErrRulesNumber)
	misread(t, "pack a 1\ntable t: 0.00 1.000001%", 2, 14, api.ErrRulesNumber)
	misread(t, "pack a 1\ntable t: --0.00 1%", 2, 10, api.ErrRulesToken)
	misread(t, "pack a 1\ntable t: 0.00 --1%", 2, 15, api.ErrRulesToken)
	misread(t, "pack a 1\ntable t: 0 1%", 2, 9, api.ErrRulesToken)
	misread(t, "pack a 1\ntable t: 0.00 1/2", 2, 14, api.ErrRulesToken)
	misread(t, "pack a 1\ntable t: 0.00 1% 1.00 2%", 2, 17, api.ErrRulesToken)
	misread(t, "pack a 1\ntable t: 0.00, 1%", 2, 13, api.ErrRulesToken)
	misread(t, "pack a 1\ntable t:", 2, 8, api.ErrRulesToken)
}

func TestP5_6Groups(t *testing.T) {
	prints(t, api.Pack{Name: "a", Year: 1, Groups: []api.Group{{Name: "g"}, {Name: "k", Rows: 1000000000}}}, "pack a 1\ngroup g 0\ngroup k 1000000000\n")
	misread(t, "pack a 1\ngroup g", 2, 7, api.ErrRulesToken)
	misread(t, "pack a 1\ngroup g -1", 2, 8, api.ErrRulesToken)
	misread(t, "pack a 1\ngroup g: 1", 2, 7, api.ErrRulesToken)
}

func TestP5_6InputsAndLines(t *testing.T) {
	for _, input := range []bool{true, false} {
		word := map[bool]string{true: "input", false: "line"}[input]
		for tail, want := range map[string]api.Line{
			"x cents":           {Group: -1},
			"x cents must":      {Group: -1, Must: true},
			"x cents in k":      {Group: 1},
			"x cents in g must": {Group: 0, Must: true},
		} {
			want.Name, want.Input, want.Type, want.Options = "x", input, api.Cents, -1
			prints(t, api.Pack{Name: "a", Year: 1, Groups: []api.Group{{Name: "g", Rows: 1}, {Name: "k", Rows: 1}}, Lines: []api.Line{want}}, "pack a 1\ngroup g 1\ngroup k 1\n"+word+" "+tail+"\n")
		}
		head := "pack a 1\ngroup g 1\n" + word + " x"
		n := len(word) + 2
		misread(t, head+" cents must in g", 3, n+12, api.ErrRulesToken)
		misread(t, head+" cents in g in g", 3, n+12, api.ErrRulesToken)
		misread(t, head+" cents must must", 3, n+12, api.ErrRulesToken)
		misread(t, head+" cents hard", 3, n+7, api.ErrRulesToken)
		misread(t, head+" in g cents", 3, n+1, api.ErrRulesToken)
		misread(t, head+": cents", 3, n, api.ErrRulesToken)
	}
	misread(t, "pack a 1\ninput x cents\n  is 5.00", 3, 2, api.ErrRulesToken)
	misread(t, "pack a 1\ninput x cents\n  at 1 when yes is 5.00", 3, 2, api.ErrRulesToken)
}

// Clauses: any number of them, in any order, with any priorities.
func TestP5_6Clauses(t *testing.T) {
	p := api.Pack{Name: "a", Year: 1, Lines: []api.Line{
		{Name: "x", Type: api.Cents, Options: -1, Group: -1, Clauses: []api.Clause{
			{Priority: 9, Guarded: true, Guard: flag(1), Body: cents(1)},
			{Body: cents(2)},
			{Guarded: true, Guard: op(api.OpIf, flag(1), flag(0), flag(1)), Body: op(api.OpIf, flag(0), cents(3), cents(4))},
			{Body: cents(5)},
			{Priority: 1000000000, Guarded: true, Guard: line(1), Body: line(1)},
			{Priority: 9, Guarded: true, Guard: flag(0), Body: cents(6)},
			{Body: cents(7)},
		}},
		{Name: "y", Type: api.Flag, Options: -1, Group: -1, Clauses: []api.Clause{{Body: line(0)}}},
		{Name: "z", Type: api.Flag, Options: -1, Group: -1},
	}}
	prints(t, p, `pack a 1
line x cents
  at 9 when yes is 0.01
  is 0.02
  at 0 when if yes then no else yes is if no then 0.03 else 0.04
  is 0.05
  at 1000000000 when y is y
  at 9 when no is 0.06
  is 0.07
line y flag
  is x
line z flag
`)
	head := "pack a 1\nline x cents\n"
	misread(t, head+"is", 3, 2, api.ErrRulesToken)
	misread(t, head+"is yes no", 3, 7, api.ErrRulesToken)
	misread(t, head+"is yes is no", 3, 7, api.ErrRulesToken)
	misread(t, head+"is yes when no", 3, 7, api.ErrRulesToken)
	misread(t, head+"at 1 is yes", 3, 5, api.ErrRulesToken)
	misread(t, head+"at -1 when yes is yes", 3, 3, api.ErrRulesToken)
	misread(t, head+"at 1 when yes", 3, 13, api.ErrRulesToken)
	misread(t, head+"at 1 when yes\nis yes", 3, 13, api.ErrRulesToken)
	misread(t, head+"at 1 when is yes", 3, 10, api.ErrRulesToken)
	misread(t, head+"at 1 when yes is", 3, 16, api.ErrRulesToken)
	misread(t, head+"when yes", 3, 0, api.ErrRulesToken)
	misread(t, head+"is yes\ngroup g 1\nis yes", 5, 0, api.ErrRulesToken)
}

func TestP5_6Checks(t *testing.T) {
	for head, want := range map[string]api.Check{
		`x ""`:                        {Group: -1},
		`x hard "a b"`:                {Group: -1, Hard: true, Text: "a b"},
		`x in k "say \"\\\""`:         {Group: 1, Text: `say "\"`},
		`x hard in g "# 9 ~, line y"`: {Group: 0, Hard: true, Text: "# 9 ~, line y"},
	} {
		want.Name, want.When = "x", op(api.OpNot, flag(1))
		prints(t, api.Pack{Name: "a", Year: 1, Groups: []api.Group{{Name: "g", Rows: 1}, {Name: "k", Rows: 1}}, Checks: []api.Check{want}}, "pack a 1\ngroup g 1\ngroup k 1\ncheck "+head+"\n  when not yes\n")
	}
	misread(t, "pack a 1\ngroup g 1\ncheck x in g hard \"\"\nwhen yes", 3, 13, api.ErrRulesToken)
	misread(t, "pack a 1\ncheck x must \"\"\nwhen yes", 2, 8, api.ErrRulesToken)
	misread(t, "pack a 1\ncheck x hard hard \"\"\nwhen yes", 2, 13, api.ErrRulesToken)
	misread(t, "pack a 1\ncheck x y\nwhen yes", 2, 8, api.ErrRulesToken)
	misread(t, "pack a 1\ncheck x\nwhen yes", 2, 7, api.ErrRulesToken)
	misread(t, "pack a 1\ncheck x \"\" \"\"\nwhen yes", 2, 11, api.ErrRulesToken)
	misread(t, "pack a 1\ncheck x \"\" when yes", 2, 11, api.ErrRulesToken)
	misread(t, "pack a 1\ncheck x \"\"\nis yes", 3, 0, api.ErrRulesToken)
	misread(t, "pack a 1\ncheck x \"\"\ncheck y \"\"\nwhen yes", 3, 0, api.ErrRulesToken)
	misread(t, "pack a 1\ncheck x \"\"\nwhen yes\nwhen yes", 4, 0, api.ErrRulesToken)
	misread(t, "pack a 1\ncheck x \"\"\nwhen yes is no", 3, 9, api.ErrRulesToken)
	misread(t, "pack a 1\ncheck x \"\"", 2, 10, api.ErrRulesEnd)
}

func TestP5_7Types(t *testing.T) {
	p := parsed(t, "pack a 1\ninput a cents\ninput b count\ninput c flag\ninput d day\ninput e o\ninput f p\noptions o: x\noptions p: x")
	for i, want := range [][2]int{{api.Cents, -1}, {api.Count, -1}, {api.Flag, -1}, {api.Day, -1}, {api.Choice, 0}, {api.Choice, 1}} {
		if l := p.Lines[i]; l.Type != want[0] || l.Options != want[1] || l.Group != -1 {
			t.Errorf("line %d: %+v", i, l)
		}
	}
	misread(t, "pack a 1\ninput x nothing )", 2, 8, api.ErrRulesName)
	misread(t, "pack a 1\nline x x", 2, 7, api.ErrRulesName)
	misread(t, "pack a 1\ntable t: 0.00 1%\ngroup g 1\ncheck k \"\"\nwhen no\nline x t", 6, 7, api.ErrRulesName)
	misread(t, "pack a 1\ngroup g 1\nline x g", 3, 7, api.ErrRulesName)
	misread(t, "pack a 1\noptions o: single\nline x single", 3, 7, api.ErrRulesName)
	misread(t, "pack a 1\nline x choice", 2, 7, api.ErrRulesName)
}

func TestP5_7Groups(t *testing.T) {
	misread(t, "pack a 1\ninput x cents in none )", 2, 17, api.ErrRulesName)
	misread(t, "pack a 1\nline x cents in x", 2, 16, api.ErrRulesName)
	misread(t, "pack a 1\noptions o: a\nline x o in o", 3, 12, api.ErrRulesName)
	misread(t, "pack a 1\ncheck x in none \"\"\nwhen yes", 2, 11, api.ErrRulesName)
	misread(t, "pack a 1\ncheck x hard in x \"\"\nwhen yes", 2, 16, api.ErrRulesName)
	p := parsed(t, "pack a 1\ninput x cents in k\ncheck y in g \"\"\nwhen yes\ninput z cents\ncheck w \"\"\nwhen yes\ngroup g 1\ngroup k 1")
	if p.Lines[0].Group != 1 || p.Checks[0].Group != 0 || p.Lines[1].Group != -1 || p.Checks[1].Group != -1 {
		t.Errorf("%+v", p)
	}
}
