package rules_test

import (
	"slices"
	"testing"

	"levy/api"
	"levy/rules"
)

func TestP5_3WordsAreNoNames(t *testing.T) {
	for _, w := range allWords {
		misread(t, "pack "+w+" 2024", 1, 5, api.ErrRulesToken)
		for _, item := range []string{"options ", "table ", "group ", "input ", "line ", "check "} {
			misread(t, "pack a 2024\n"+item+w+" 1", 2, len(item), api.ErrRulesToken)
		}
		misread(t, "pack a 2024\noptions o: a, "+w, 2, 14, api.ErrRulesToken)
		misread(t, "pack a 2024\ngroup g 1\ninput x cents in "+w, 3, 17, api.ErrRulesToken)
		if !slices.Contains([]string{"cents", "count", "flag", "day"}, w) {
			misread(t, "pack a 2024\ninput x "+w, 2, 8, api.ErrRulesToken)
		}
		misreadExpr(t, "sum("+w+")", 4, api.ErrRulesToken)
		misreadExpr(t, "used("+w+")", 5, api.ErrRulesToken)
		misreadExpr(t, "bracket("+w+", c)", 8, api.ErrRulesToken)
		misreadExpr(t, "o."+w, 2, api.ErrRulesToken)
		if !slices.Contains([]string{"if", "not", "yes", "no"}, w) {
			misreadExpr(t, w, 0, api.ErrRulesToken)
			misreadExpr(t, w+"(c)", 0, api.ErrRulesToken)
			misreadExpr(t, w+".x", 0, api.ErrRulesToken)
		}
	}
}

// Whatever is no word may be a name: what functions and modes are called, and what begins like a word.
func TestP5_3NamesThatAreNoWords(t *testing.T) {
	for _, n := range []string{
		"sum", "least", "greatest", "any", "all", "used", "blank", "min", "max", "abs", "clamp", "scale", "split", "round", "bracket", "either", "year", "age", "months", "days", "addmonths",
		"down", "up", "inward", "halfup", "halfeven", "packs", "is_", "i", "yes1", "on", "abcdefghijkl",
	} {
		p := api.Pack{Name: n, Year: 1, Lines: []api.Line{{Name: n, Type: api.Flag, Options: -1, Group: -1, Clauses: []api.Clause{{Body: op(api.OpNot, line(0))}}}}}
		prints(t, p, "pack "+n+" 1\nline "+n+" flag\n  is not "+n+"\n")
		p = api.Pack{Name: "a", Options: []api.Options{{Name: n, Names: []string{n}}}, Checks: []api.Check{{Name: "k", Group: -1, When: choice(0, 0)}}}
		prints(t, p, "pack a 0\noptions "+n+": "+n+"\ncheck k \"\"\n  when "+n+"."+n+"\n")
	}
}

// Names may be used ahead of their items, whatever order these stand in.
func TestP5_4NamesBelow(t *testing.T) {
	p := parsed(t, "pack a 1\ninput i q in k\nline y r\n is z\n at 1 when blank(i) is bracket(u, sum(z)) + used(k)\n at 2 when q.e = r.e is z\ncheck w in g \"\"\n when z\noptions r: e\ntable t: 0.00 1%\noptions q: d, e\ngroup g 1\ntable u: 0.00 1%\nline z cents\ngroup k 2\n")
	if i := p.Lines[0]; i.Options != 1 || i.Group != 1 {
		t.Errorf("the input: %+v", i)
	}
	y := p.Lines[1]
	if y.Options != 0 || text(y.Clauses[0].Body) != text(line(2)) {
		t.Errorf("the line: %+v", y)
	}
	if c := y.Clauses[1]; text(c.Guard) != text(op(api.OpIsBlank, line(0))) || text(c.Body) != text(op(api.OpAdd, of(api.OpBracket, 1, of(api.OpSum, 2)), of(api.OpUsed, 1))) {
		t.Errorf("the first exception: %+v", c)
	}
	if c := y.Clauses[2]; text(c.Guard) != text(op(api.OpEq, choice(1, 1), choice(0, 0))) {
		t.Errorf("the second exception: %+v", c)
	}
	if c := p.Checks[0]; c.Group != 0 || text(c.When) != text(line(2)) {
		t.Errorf("the check: %+v", c)
	}
}

// What is gathered isn't looked at otherwise: names of lines that are refused later on are known ahead of them.
func TestP5_4Gathered(t *testing.T) {
	use := func(expr, below string) string {
		return "pack a 1\nline x cents\n is " + expr + "\n" + below
	}
	misread(t, use("y", "line y 5"), 4, 7, api.ErrRulesToken)
	misread(t, use("y", "input y"), 4, 7, api.ErrRulesToken)
	misread(t, use("y", "line 5 y"), 3, 4, api.ErrRulesName)
	misread(t, use("y", "check y \"\""), 3, 4, api.ErrRulesName)
	misread(t, use("y", "table y: 0.00 1%"), 3, 4, api.ErrRulesName)
	misread(t, use("y", "pack y 1"), 3, 4, api.ErrRulesName)
	misread(t, use("y", "7 line y cents"), 3, 4, api.ErrRulesName)
	misread(t, use("y", "\"line\" y cents"), 3, 4, api.ErrRulesName)
	misread(t, use("y", "line x cents line y cents"), 3, 4, api.ErrRulesName)
	misread(t, use("used(y)", "group y y"), 4, 8, api.ErrRulesToken)
	misread(t, use("used(y)", "input y cents"), 3, 9, api.ErrRulesName)
	misread(t, use("bracket(y, x)", "table y"), 4, 7, api.ErrRulesToken)
	misread(t, use("bracket(y, x)", "options y: y"), 3, 12, api.ErrRulesName)
	misread(t, use("y.z", "options y 5, z"), 4, 10, api.ErrRulesToken)
	misread(t, use("y.z", "options y: 5: z"), 4, 11, api.ErrRulesToken)
	misread(t, use("y.z", "options y, z"), 4, 9, api.ErrRulesToken)
	misread(t, use("y.z", "options y: a z"), 3, 6, api.ErrRulesName)
	misread(t, use("y.z", "options y: a,, b"), 3, 6, api.ErrRulesName)
	misread(t, use("y.z", "options y: a,\nz"), 3, 6, api.ErrRulesName)
	misread(t, use("y.y", "options y"), 3, 6, api.ErrRulesName)
	misread(t, use("y.a", "options: y: a"), 3, 4, api.ErrRulesName)
	misread(t, use("y.z", "options y \":\" z"), 3, 6, api.ErrRulesName)
}

// Of names that stand twice the first one counts.
func TestP5_4Twice(t *testing.T) {
	misread(t, "pack a 1\nline x cents\n is o.b\noptions o: a\noptions o: b", 3, 6, api.ErrRulesName)
	misread(t, "pack a 1\nline x cents\n is o.a\noptions o: a\noptions o: b", 5, 8, api.ErrRulesTwice)
	for s, want := range map[string]api.Expr{
		"c": line(0), "o.x": choice(0, 0), "o.y": choice(0, 1), "h.x": choice(1, 1), "used(g)": of(api.OpUsed, 0), "used(k)": of(api.OpUsed, 1),
		"bracket(t, c)": of(api.OpBracket, 0, line(0)), "bracket(u, c)": of(api.OpBracket, 1, line(0)), "least(c)": of(api.OpLeast, 0), "o": line(lineO),
	} {
		readsExpr(t, s, want)
	}
	_, err := rules.ParseExpr("o.z", over(), -1)
	isMisread(t, "o.z", err, 1, 2, api.ErrRulesName)
}

// One name may be a line's in one pack and a function's, mode's or option's in the same text.
func TestP5_4NamesOfManyKinds(t *testing.T) {
	s := "pack a 1\noptions o: a, o, sum\ninput sum cents\nline up cents\n  is scale(sum, 50%, up) + sum(sum) + up\n  at 1 when o.sum = o.o is sum\n"
	p := parsed(t, s)
	prints(t, p, s)
	if text(p.Lines[1].Clauses[0].Body) != text(op(api.OpAdd, scale(line(0), 1, 2, api.Up), of(api.OpSum, 0), line(1))) || text(p.Lines[1].Clauses[1].Guard) != text(op(api.OpEq, choice(0, 2), choice(0, 1))) {
		t.Errorf("%+v", p.Lines[1])
	}
}
