package rules_test

import (
	"errors"
	"fmt"
	"strings"
	"testing"

	"levy/api"
	"levy/rules"
)

// simple: the text of the chapter's first example.
const simple = `pack simple 2024
options status: single, joint
table rates: 0.00 10%, 11000.00 12.5%
group kid 3
input wage cents must
input filing status
input age count in kid
line credit cents in kid
  is if age < 17 then 2000.00 else 0.00
line tax cents
  is bracket(rates, wage) - sum(credit)
  at 2 when filing = status.joint and wage < 20000.00 is 0.00
check rich hard "too much"
  when wage > 1000000.00
`

// simplePack: what it is read as.
func simplePack() api.Pack {
	return api.Pack{
		Name: "simple", Year: 2024,
		Options: []api.Options{{Name: "status", Names: []string{"single", "joint"}}},
		Tables:  []api.Table{{Name: "rates", Bands: []api.Band{{From: 0, Rate: 100000}, {From: 1100000, Rate: 125000}}}},
		Groups:  []api.Group{{Name: "kid", Rows: 3}},
		Lines: []api.Line{
			{Name: "wage", Input: true, Must: true, Type: api.Cents, Options: -1, Group: -1},
			{Name: "filing", Input: true, Type: api.Choice, Options: 0, Group: -1},
			{Name: "age", Input: true, Type: api.Count, Options: -1, Group: 0},
			{Name: "credit", Type: api.Cents, Options: -1, Group: 0, Clauses: []api.Clause{
				{Body: op(api.OpIf, op(api.OpLt, line(2), count(17)), cents(200000), cents(0))},
			}},
			{Name: "tax", Type: api.Cents, Options: -1, Group: -1, Clauses: []api.Clause{
				{Body: op(api.OpSub, api.Expr{Op: api.OpBracket, Args: []api.Expr{line(0)}}, api.Expr{Op: api.OpSum, Num: 3})},
				{Priority: 2, Guarded: true, Guard: op(api.OpAnd, op(api.OpEq, line(1), choice(0, 1)), op(api.OpLt, line(0), cents(2000000))), Body: cents(0)},
			}},
		},
		Checks: []api.Check{{Name: "rich", Hard: true, Group: -1, Text: "too much", When: op(api.OpGt, line(0), cents(100000000))}},
	}
}

// over: a pack whose names the expressions of these tests name; some of them are functions' names and modes, one stands twice, one is a word.
func over() api.Pack {
	return api.Pack{
		Name: "over", Year: 2024,
		Options: []api.Options{{Name: "o", Names: []string{"x", "y"}}, {Name: "h", Names: []string{"down", "x", "x"}}, {Name: "o", Names: []string{"z"}}},
		Tables:  []api.Table{{Name: "t"}, {Name: "u"}, {Name: "t"}},
		Groups:  []api.Group{{Name: "g"}, {Name: "k"}, {Name: "g"}},
		Lines:   []api.Line{{Name: "c"}, {Name: "n"}, {Name: "f"}, {Name: "d"}, {Name: "r"}, {Name: "sum"}, {Name: "c"}, {Name: "o"}, {Name: "yes"}, {Name: "min"}},
	}
}

// The numbers of over's lines.
const (
	lineC, lineN, lineF, lineD, lineR = 0, 1, 2, 3, 4
	lineSum, lineO, lineMin           = 5, 7, 9
)

func op(o int, args ...api.Expr) api.Expr { return api.Expr{Op: o, Args: args} }
func line(n int64) api.Expr               { return api.Expr{Op: api.OpLine, Num: n} }
func cents(n int64) api.Expr              { return api.Expr{Op: api.OpCents, Num: n} }
func count(n int64) api.Expr              { return api.Expr{Op: api.OpCount, Num: n} }
func flag(n int64) api.Expr               { return api.Expr{Op: api.OpFlag, Num: n} }
func day(n int64) api.Expr                { return api.Expr{Op: api.OpDay, Num: n} }
func choice(table, option int64) api.Expr {
	return api.Expr{Op: api.OpChoice, Num: option, Den: table}
}
func of(o int, n int64, args ...api.Expr) api.Expr { return api.Expr{Op: o, Num: n, Args: args} }
func scale(e api.Expr, num, den int64, mode int) api.Expr {
	return api.Expr{Op: api.OpScale, Num: num, Den: den, Mode: mode, Args: []api.Expr{e}}
}

// text tells a pack or expression; nil and empty lists alike.
func text(x any) string { return fmt.Sprintf("%+v", x) }

// reads asks for what a text is read as.
func reads(t *testing.T, s string, want api.Pack) {
	t.Helper()
	if p, err := rules.Parse(s); err != nil || text(p) != text(want) {
		t.Errorf("Parse(%q): %v, %+v\nwant %+v", s, err, p, want)
	}
}

func parsed(t *testing.T, s string) api.Pack {
	t.Helper()
	p, err := rules.Parse(s)
	if err != nil {
		t.Fatalf("Parse(%q): %v", s, err)
	}
	return p
}

// misread asks for a fault at a place, and that the answer has nothing else.
func misread(t *testing.T, s string, line, at int, e api.Errno) {
	t.Helper()
	p, err := rules.Parse(s)
	isMisread(t, s, err, line, at, e)
	if text(p) != text(api.Pack{}) {
		t.Errorf("Parse(%q): a pack beside an error: %+v", s, p)
	}
}

func isMisread(t *testing.T, s string, err error, line, at int, e api.Errno) {
	t.Helper()
	m, ok := err.(*api.Misread)
	if !ok || *m != (api.Misread{Line: line, At: at, Err: e}) || !errors.Is(err, e) {
		t.Errorf("%q: %v, want line %d, byte %d: error %d", s, err, line, at, int(e))
	}
}

// readsExpr asks for what a text is read as over over.
func readsExpr(t *testing.T, s string, want api.Expr) {
	t.Helper()
	if e, err := rules.ParseExpr(s, over(), -1); err != nil || text(e) != text(want) {
		t.Errorf("ParseExpr(%q): %v, %+v\nwant %+v", s, err, e, want)
	}
}

// misreadExpr asks for a fault at a byte of an expression's text, and for the same fault where it stands in a clause, a guard or a check.
func misreadExpr(t *testing.T, s string, at int, e api.Errno) {
	t.Helper()
	got, err := rules.ParseExpr(s, over(), -1)
	isMisread(t, s, err, 1, at, e)
	if text(got) != text(api.Expr{}) {
		t.Errorf("ParseExpr(%q): an expression beside an error: %+v", s, got)
	}
	for _, lead := range []string{"line a cents\n  is ", "line a cents\n  at 7 when ", "line a cents\n  at 7 when yes is ", "check a \"\"\n  when "} {
		lead = "pack p 2024\n" + overText + lead
		misread(t, lead+s, 1+strings.Count(lead, "\n"), len(lead)-strings.LastIndex(lead, "\n")-1+at, e)
	}
}

// overText: items that have the names of over that count.
const overText = `options o: x, y
options h: down, x
table t: 0.00 1%
table u: 0.00 1%
group g 1
group k 1
input c cents
input n count
input f flag
input d day
input r cents in g
input sum cents
input min cents
`

// writes asks for an expression's text over over, and that it is read as the expression again.
func writes(t *testing.T, e api.Expr, want string) {
	t.Helper()
	if s, err := rules.PrintExpr(e, over()); err != nil || s != want {
		t.Errorf("PrintExpr(%+v): %q, %v, want %q", e, s, err, want)
	}
	readsExpr(t, want, e)
}

func cannotWrite(t *testing.T, e api.Expr) {
	t.Helper()
	if s, err := rules.PrintExpr(e, over()); err != api.ErrRulesPrint || s != "" {
		t.Errorf("PrintExpr(%+v): %q, %v, want ErrRulesPrint", e, s, err)
	}
}

func prints(t *testing.T, p api.Pack, want string) {
	t.Helper()
	if s, err := rules.Print(p); err != nil || s != want {
		t.Errorf("Print(%+v): %q, %v, want %q", p, s, err, want)
	}
	reads(t, want, p)
}

func cannotPrint(t *testing.T, why string, p api.Pack) {
	t.Helper()
	if s, err := rules.Print(p); err != api.ErrRulesPrint || s != "" {
		t.Errorf("Print of a pack with %s: %q, %v, want ErrRulesPrint", why, s, err)
	}
}

// The words of the chapter.
var allWords = []string{"pack", "options", "table", "group", "input", "line", "check", "in", "must", "hard", "cents", "count", "flag", "day", "is", "at", "when", "if", "then", "else", "and", "or", "not", "yes", "no"}
