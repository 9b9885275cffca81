package rules_test

import (
	"fmt"
	"math"
	"slices"
	"strings"
	"testing"

	"levy/api"
	"levy/rules"
)

// What each kind of item looks like, all kinds in their order.
func TestP5_12Text(t *testing.T) {
	p := api.Pack{
		Name: "all", Year: 7,
		Options: []api.Options{{Name: "o", Names: []string{"x", "y"}}, {Name: "h", Names: []string{"z"}}},
		Tables:  []api.Table{{Name: "t", Bands: []api.Band{{From: -1, Rate: -1}, {From: 150, Rate: 12500}}}, {Name: "u", Bands: []api.Band{{From: 5, Rate: 1000000}}}},
		Groups:  []api.Group{{Name: "g", Rows: 2}, {Name: "k", Rows: 8}},
		Lines: []api.Line{
			{Name: "l", Type: api.Choice, Options: 1, Group: 1, Must: true, Clauses: []api.Clause{
				{Body: choice(1, 0)},
				{Priority: 3, Guarded: true, Guard: op(api.OpAnd, op(api.OpIsBlank, line(1)), flag(1)), Body: op(api.OpMin, op(api.OpNeg, line(1)), cents(-5), op(api.OpSub, count(3), count(-3)))},
			}},
			{Name: "m", Input: true, Type: api.Day, Options: -1, Group: 0},
		},
		Checks: []api.Check{
			{Name: "c", Hard: true, Group: 0, Text: `a "b"`, When: op(api.OpLt, scale(line(1), -1, 3, api.Up), scale(line(1), 1, 4, api.Down))},
			{Name: "e", Group: -1, When: day(45349)},
		},
	}
	prints(t, p, `pack all 7
options o: x, y
options h: z
table t: -0.01 -0.0001%, 1.50 1.25%
table u: 0.05 100%
group g 2
group k 8
line l h in k must
  is h.z
  at 3 when blank(m) and yes is min(-m, -0.05, 3 - -3)
input m day in g
check c hard in g "a \"b\""
  when scale(m, -1/3, up) < scale(m, 25%, down)
check e ""
  when 2024-02-29
`)
}

// One thing after the other that no text says.
func TestP5_12CannotBePrinted(t *testing.T) {
	for why, turn := range map[string]func(p *api.Pack){
		"a word as its name":           func(p *api.Pack) { p.Name = "pack" },
		"no name":                      func(p *api.Pack) { p.Name = "" },
		"a name with a blank":          func(p *api.Pack) { p.Name = "a b" },
		"a name with an item in it":    func(p *api.Pack) { p.Name = "a 1\ngroup z" },
		"a name that is too long":      func(p *api.Pack) { p.Name = "abcdefghijklm" },
		"a year below 0":               func(p *api.Pack) { p.Year = -1 },
		"a year above all counts":      func(p *api.Pack) { p.Year = api.MaxCount + 1 },
		"the least year":               func(p *api.Pack) { p.Year = math.MinInt },
		"a name twice":                 func(p *api.Pack) { p.Groups[0].Name = "tax" },
		"an option twice":              func(p *api.Pack) { p.Options[0].Names[1] = "single" },
		"no options":                   func(p *api.Pack) { p.Options[0].Names = nil },
		"an option without a name":     func(p *api.Pack) { p.Options[0].Names[0] = "" },
		"an option that is a word":     func(p *api.Pack) { p.Options[0].Names[0] = "no" },
		"two options in one":           func(p *api.Pack) { p.Options[0].Names[0] = "a, b" },
		"options called by a word":     func(p *api.Pack) { p.Options[0].Name = "day" },
		"a table called by a word":     func(p *api.Pack) { p.Tables[0].Name = "table" },
		"no bands":                     func(p *api.Pack) { p.Tables[0].Bands = nil },
		"a rate above MaxRatio":        func(p *api.Pack) { p.Tables[0].Bands[0].Rate = api.MaxRatio + 1 },
		"a rate of a million million%": func(p *api.Pack) { p.Tables[0].Bands[0].Rate = 1e15 },
		"a rate below -MaxRatio":       func(p *api.Pack) { p.Tables[0].Bands[0].Rate = -api.MaxRatio - 1 },
		"the greatest rate":            func(p *api.Pack) { p.Tables[0].Bands[0].Rate = math.MaxInt64 },
		"the least rate":               func(p *api.Pack) { p.Tables[0].Bands[0].Rate = math.MinInt64 },
		"a band above MaxCents":        func(p *api.Pack) { p.Tables[0].Bands[0].From = api.MaxCents + 1 },
		"a band below -MaxCents":       func(p *api.Pack) { p.Tables[0].Bands[0].From = -api.MaxCents - 1 },
		"the least band":               func(p *api.Pack) { p.Tables[0].Bands[0].From = math.MinInt64 },
		"a group called by a word":     func(p *api.Pack) { p.Groups[0].Name = "is" },
		"rows below 0":                 func(p *api.Pack) { p.Groups[0].Rows = -1 },
		"rows above all counts":        func(p *api.Pack) { p.Groups[0].Rows = math.MaxInt },
		"a line called by a word":      func(p *api.Pack) { p.Lines[2].Name = "else" },
		"type 0":                       func(p *api.Pack) { p.Lines[0].Type = 0 },
		"type 6":                       func(p *api.Pack) { p.Lines[0].Type = api.Fault },
		"type -1":                      func(p *api.Pack) { p.Lines[0].Type = math.MinInt },
		"cents with options":           func(p *api.Pack) { p.Lines[0].Options = 0 },
		"cents with options -2":        func(p *api.Pack) { p.Lines[0].Options = -2 },
		"a choice without options":     func(p *api.Pack) { p.Lines[1].Options = -1 },
		"a choice of no options":       func(p *api.Pack) { p.Lines[1].Options = 1 },
		"a choice of the last options": func(p *api.Pack) { p.Lines[1].Options = math.MaxInt },
		"a line in no group":           func(p *api.Pack) { p.Lines[2].Group = 1 },
		"a line in group -2":           func(p *api.Pack) { p.Lines[2].Group = -2 },
		"a line in the least group":    func(p *api.Pack) { p.Lines[2].Group = math.MinInt },
		"an input with a clause":       func(p *api.Pack) { p.Lines[0].Clauses = []api.Clause{{Body: cents(0)}} },
		"a line as an input":           func(p *api.Pack) { p.Lines[4].Input = true },
		"a default with a priority":    func(p *api.Pack) { p.Lines[4].Clauses[0].Priority = 1 },
		"a default with a guard":       func(p *api.Pack) { p.Lines[4].Clauses[0].Guard = flag(1) },
		"a default without a body":     func(p *api.Pack) { p.Lines[4].Clauses[0].Body = api.Expr{} },
		"an unguarded exception":       func(p *api.Pack) { p.Lines[4].Clauses[1].Guarded = false },
		"a guard that is nothing":      func(p *api.Pack) { p.Lines[4].Clauses[1].Guard = api.Expr{} },
		"a guarded default":            func(p *api.Pack) { p.Lines[4].Clauses[0].Guarded = true },
		"a priority below 0":           func(p *api.Pack) { p.Lines[4].Clauses[1].Priority = -1 },
		"a priority above all counts":  func(p *api.Pack) { p.Lines[4].Clauses[1].Priority = api.MaxCount + 1 },
		"a body with a Den":            func(p *api.Pack) { p.Lines[4].Clauses[1].Body.Den = 1 },
		"a guard with a Mode":          func(p *api.Pack) { p.Lines[4].Clauses[1].Guard.Mode = 1 },
		"a check called by a word":     func(p *api.Pack) { p.Checks[0].Name = "hard" },
		"a check in no group":          func(p *api.Pack) { p.Checks[0].Group = 1 },
		"a check in group -2":          func(p *api.Pack) { p.Checks[0].Group = -2 },
		"a text of two lines":          func(p *api.Pack) { p.Checks[0].Text = "a\nb" },
		"a text that is too long":      func(p *api.Pack) { p.Checks[0].Text = strings.Repeat("x", 41) },
		"a text that isn't plain":      func(p *api.Pack) { p.Checks[0].Text = "é" },
		"a check of nothing":           func(p *api.Pack) { p.Checks[0].When = api.Expr{} },
		"a check of no line":           func(p *api.Pack) { p.Checks[0].When = line(5) },
	} {
		p := simplePack()
		turn(&p)
		cannotPrint(t, why, p)
	}
	cannotPrint(t, "nothing", api.Pack{})
}

// What other layers wouldn't take has a text all the same, if a text says it.
func TestP5_12OddButPrinted(t *testing.T) {
	for tail, turn := range map[string]func(p *api.Pack){
		"pack pac 0\n":                          func(p *api.Pack) { p.Name, p.Year = "pac", 0 },
		"pack simple 1000000000\n":              func(p *api.Pack) { p.Year = api.MaxCount },
		"group kid 1000000000\n":                func(p *api.Pack) { p.Groups[0].Rows = api.MaxCount },
		"table rates: 0.00 100000%, ":           func(p *api.Pack) { p.Tables[0].Bands[0].Rate = api.MaxRatio },
		"table rates: -99999999999.99 -100000%": func(p *api.Pack) { p.Tables[0].Bands[0] = api.Band{From: -api.MaxCents, Rate: -api.MaxRatio} },
		"  at 0 when ":                          func(p *api.Pack) { p.Lines[4].Clauses[1].Priority = 0 },
		"  at 1000000000 when ":                 func(p *api.Pack) { p.Lines[4].Clauses[1].Priority = api.MaxCount },
		"check rich \"\"\n":                     func(p *api.Pack) { p.Checks[0].Hard, p.Checks[0].Text = false, "" },
		"check rich hard in kid \"too much\"\n": func(p *api.Pack) { p.Checks[0].Group = 0 },
		"line tax cents\n  at 2":                func(p *api.Pack) { p.Lines[4].Clauses = p.Lines[4].Clauses[1:] },
		"  when 0.05\n":                         func(p *api.Pack) { p.Checks[0].When = cents(5) },
		"  when scale(age, 1/0, up)\n":          func(p *api.Pack) { p.Checks[0].When = scale(line(2), 1, 0, api.Up) },
	} {
		p := simplePack()
		turn(&p)
		s, err := rules.Print(p)
		if err != nil || !strings.Contains(s, tail) {
			t.Errorf("%q: %v, %q", tail, err, s)
			continue
		}
		reads(t, s, p)
	}
}

func TestP5_12Length(t *testing.T) {
	p := api.Pack{Name: "a", Year: 1}
	for i := range 266 { // 30 bytes a group
		p.Groups = append(p.Groups, api.Group{Name: fmt.Sprintf("group%07d", i), Rows: 1000000000})
	}
	s, err := rules.Print(p)
	if err != nil || len(s) != 7989 {
		t.Fatalf("%d bytes: %v", len(s), err)
	}
	p.Name, p.Year = "abcdefghijk", 10
	if s, err = rules.Print(p); err != nil || len(s) != 8000 {
		t.Errorf("%d bytes: %v", len(s), err)
	}
	reads(t, s, p)
	p.Year = 100
	cannotPrint(t, "8001 bytes", p)
	p.Year = 10
	p.Groups = append(p.Groups, p.Groups...)
	cannotPrint(t, "8001 bytes and more", p)
}

// A ratio is a percent just where that is read as the same two numbers.
func TestP5_12Ratios(t *testing.T) {
	for s, want := range map[string][2]int64{
		"7.5%": {3, 40}, "75/1000": {75, 1000}, "-7.5%": {-3, 40}, "-75/1000": {-75, 1000}, "0%": {0, 1}, "0/5": {0, 5}, "0/0": {0, 0}, "5/0": {5, 0}, "-5/0": {-5, 0}, "1/3": {1, 3}, "-1/3": {-1, 3},
		"100%": {1, 1}, "2/2": {2, 2}, "0.000001%": {1, 100000000}, "1/1000000000": {1, 1000000000}, "100000000000%": {1000000000, 1}, "-100000000000%": {-1000000000, 1}, "1000000000/3": {1000000000, 3}, "99.999999%": {99999999, 100000000}, "333333/1000000000": {333333, 1000000000},
	} {
		writes(t, scale(c, want[0], want[1], api.HalfUp), "scale(c, "+s+", halfup)")
	}
	for _, r := range [][2]int64{{1, -1}, {-1, -1}, {1000000001, 1}, {-1000000001, 1}, {1, 1000000001}, {1000000001, 1000000001}, {math.MinInt64, 1}, {math.MinInt64, math.MinInt64}, {math.MaxInt64, 1}, {1, math.MinInt64}, {1, math.MaxInt64}} {
		cannotWrite(t, scale(c, r[0], r[1], api.HalfUp))
	}
}

func TestP5_13Parentheses(t *testing.T) {
	orF, andF, notF := op(api.OpOr, f, f), op(api.OpAnd, f, f), op(api.OpNot, f)
	less, add, sub, times, neg := op(api.OpLt, c, n), op(api.OpAdd, c, n), op(api.OpSub, c, n), op(api.OpTimes, c, n), op(api.OpNeg, c)
	iff := op(api.OpIf, f, c, n)
	// By the row that each has, the loosest first.
	rows := []api.Expr{iff, orF, andF, notF, less, add, times, neg, c}
	plain := []string{"if f then c else n", "f or f", "f and f", "not f", "c < n", "c + n", "c * n", "-c", "c"}
	holders := []struct {
		make   func(e api.Expr) api.Expr
		form   string // with the operand as %s
		wanted int
	}{
		{func(e api.Expr) api.Expr { return op(api.OpOr, e, f) }, "%s or f", 2},
		{func(e api.Expr) api.Expr { return op(api.OpOr, f, f, e) }, "f or f or %s", 2},
		{func(e api.Expr) api.Expr { return op(api.OpAnd, e, f) }, "%s and f", 3},
		{func(e api.Expr) api.Expr { return op(api.OpAnd, f, f, e) }, "f and f and %s", 3},
		{func(e api.Expr) api.Expr { return op(api.OpNot, e) }, "not %s", 3},
		{func(e api.Expr) api.Expr { return op(api.OpEq, e, f) }, "%s = f", 5},
		{func(e api.Expr) api.Expr { return op(api.OpNe, f, e) }, "f != %s", 5},
		{func(e api.Expr) api.Expr { return op(api.OpLt, e, f) }, "%s < f", 5},
		{func(e api.Expr) api.Expr { return op(api.OpLe, f, e) }, "f <= %s", 5},
		{func(e api.Expr) api.Expr { return op(api.OpGt, e, f) }, "%s > f", 5},
		{func(e api.Expr) api.Expr { return op(api.OpGe, f, e) }, "f >= %s", 5},
		{func(e api.Expr) api.Expr { return op(api.OpAdd, e, f) }, "%s + f", 6},
		{func(e api.Expr) api.Expr { return op(api.OpAdd, f, f, e) }, "f + f + %s", 6},
		{func(e api.Expr) api.Expr { return op(api.OpSub, e, f) }, "%s - f", 5},
		{func(e api.Expr) api.Expr { return op(api.OpSub, f, e) }, "f - %s", 6},
		{func(e api.Expr) api.Expr { return op(api.OpTimes, e, f) }, "%s * f", 6},
		{func(e api.Expr) api.Expr { return op(api.OpTimes, f, e) }, "f * %s", 7},
		{func(e api.Expr) api.Expr { return op(api.OpNeg, e) }, "-%s", 7},
		{func(e api.Expr) api.Expr { return op(api.OpIf, e, c, c) }, "if %s then c else c", 0},
		{func(e api.Expr) api.Expr { return op(api.OpIf, c, e, c) }, "if c then %s else c", 0},
		{func(e api.Expr) api.Expr { return op(api.OpIf, c, c, e) }, "if c then c else %s", 0},
		{func(e api.Expr) api.Expr { return op(api.OpAbs, e) }, "abs(%s)", 0},
		{func(e api.Expr) api.Expr { return op(api.OpMax, c, e) }, "max(c, %s)", 0},
		{func(e api.Expr) api.Expr { return scale(e, 1, 1, 1) }, "scale(%s, 100%, down)", 0},
		{func(e api.Expr) api.Expr { return of(api.OpBracket, 1, e) }, "bracket(u, %s)", 0},
	}
	for _, h := range holders {
		for i, e := range rows {
			inner := plain[i]
			if i < h.wanted {
				inner = "(" + inner + ")"
			}
			writes(t, h.make(e), strings.Replace(h.form, "%s", inner, 1))
		}
	}
	writes(t, op(api.OpAdd, sub, f), "c - n + f")
	writes(t, op(api.OpAdd, f, sub), "f + (c - n)")
	writes(t, op(api.OpAdd, sub, sub, f), "c - n + (c - n) + f")
	writes(t, op(api.OpAdd, add, f), "(c + n) + f")
	writes(t, op(api.OpSub, add, f), "c + n - f")
	writes(t, op(api.OpSub, sub, f), "c - n - f")
	writes(t, op(api.OpSub, f, sub), "f - (c - n)")
	writes(t, op(api.OpSub, f, add), "f - (c + n)")
}

func TestP5_13Numbers(t *testing.T) {
	for s, e := range map[string]api.Expr{
		"-5.00": cents(-500), "-5": count(-5), "-(5.00)": op(api.OpNeg, cents(500)), "-(5)": op(api.OpNeg, count(5)), "-(0.00)": op(api.OpNeg, cents(0)), "-(0)": op(api.OpNeg, count(0)),
		"--5.00": op(api.OpNeg, cents(-500)), "--5": op(api.OpNeg, count(-5)), "--(5)": op(api.OpNeg, op(api.OpNeg, count(5))), "---5": op(api.OpNeg, op(api.OpNeg, count(-5))),
		"-5 * -3": op(api.OpTimes, count(-5), count(-3)), "-5 - -3": op(api.OpSub, count(-5), count(-3)), "-5 + -3": op(api.OpAdd, count(-5), count(-3)), "c - -(3)": op(api.OpSub, c, op(api.OpNeg, count(3))),
		"-yes": op(api.OpNeg, flag(1)), "-no": op(api.OpNeg, flag(0)), "-2024-02-29": op(api.OpNeg, day(45349)), "-o.y": op(api.OpNeg, choice(0, 1)), "-sum(c)": op(api.OpNeg, of(api.OpSum, 0)),
		"round(c, -0.05, up)": {Op: api.OpRound, Num: -5, Mode: api.Up, Args: []api.Expr{c}}, "-abs(-5)": op(api.OpNeg, op(api.OpAbs, count(-5))),
	} {
		writes(t, e, s)
	}
}

func TestP5_14Examples(t *testing.T) {
	p := simplePack()
	wage := line(0)
	for want, e := range map[string]api.Expr{
		"-(5.00)":                        op(api.OpNeg, cents(500)),
		"-5.00":                          cents(-500),
		"--5.00":                         op(api.OpNeg, cents(-500)),
		"wage - (wage - 0.05)":           op(api.OpSub, wage, op(api.OpSub, wage, cents(5))),
		"not wage = 0.00":                op(api.OpNot, op(api.OpEq, wage, cents(0))),
		"scale(wage, 7.5%, halfeven)":    scale(wage, 3, 40, api.HalfEven),
		"scale(wage, 75/1000, halfeven)": scale(wage, 75, 1000, api.HalfEven),
	} {
		if s, err := rules.PrintExpr(e, p); err != nil || s != want {
			t.Errorf("PrintExpr(%+v): %q, %v, want %q", e, s, err, want)
		}
		if got, err := rules.ParseExpr(want, p, 0); err != nil || text(got) != text(e) {
			t.Errorf("ParseExpr(%q): %+v, %v", want, got, err)
		}
	}
}

// The chapter's examples of faults.
func TestP5_14ExamplesOfFaults(t *testing.T) {
	misread(t, strings.Replace(simple, "rates, wage", "rates, wages", 1), 11, 20, api.ErrRulesName)
	misread(t, strings.Replace(simple, "input wage cents must\n", "input wage cents must\ninput wage cents\n", 1), 6, 6, api.ErrRulesTwice)
	misread(t, strings.Replace(simple, "when wage > 1000000.00", "when", 1), 14, 6, api.ErrRulesToken)
	misread(t, strings.Replace(simple, "  when wage > 1000000.00\n", "", 1), 14, 0, api.ErrRulesEnd)
}

// Every operator that has a text, and what it has to have for it.
func TestP5_14CannotBeWritten(t *testing.T) {
	bare := api.Expr{}
	for _, e := range []api.Expr{
		bare, {Op: -1}, {Op: 42}, {Op: math.MinInt}, {Op: math.MaxInt},
		cents(api.MaxCents + 1), cents(-api.MaxCents - 1), cents(math.MinInt64), cents(math.MaxInt64), count(api.MaxCount + 1), count(-api.MaxCount - 1), count(math.MinInt64),
		flag(2), flag(-1), flag(math.MinInt64), day(-1), day(api.MaxDay + 1), day(1 << 32), day(math.MinInt64),
		choice(0, 2), choice(0, -1), choice(3, 0), choice(-1, 0), choice(1, 2), choice(2, 0), choice(math.MaxInt64, 0), choice(0, math.MinInt64),
		line(-1), line(10), line(6), line(8), line(math.MinInt64), line(math.MaxInt64), of(api.OpSum, 6), of(api.OpSum, -1), of(api.OpSum, 10), of(api.OpLeast, 8), of(api.OpUsed, 2), of(api.OpUsed, 3), of(api.OpUsed, -1),
		of(api.OpBracket, 2, c), of(api.OpBracket, 3, c), of(api.OpBracket, -1, c), of(api.OpBracket, 0), of(api.OpBracket, 0, c, c),
		op(api.OpIsBlank), op(api.OpIsBlank, c, c), op(api.OpIsBlank, cents(0)), op(api.OpIsBlank, of(api.OpSum, 0)), op(api.OpIsBlank, line(10)), op(api.OpIsBlank, bare), op(api.OpIsBlank, of(api.OpLine, 0, c)),
		op(api.OpAdd), op(api.OpAdd, c), op(api.OpAdd, c, c, c, c, c, c, c), op(api.OpMin), op(api.OpMin, c), op(api.OpMax, c, c, c, c, c, c, c), op(api.OpOr), op(api.OpOr, c), op(api.OpOr, c, c, c, c, c, c, c), op(api.OpAnd), op(api.OpAnd, c), op(api.OpAnd, c, c, c, c, c, c, c),
		op(api.OpSub), op(api.OpSub, c), op(api.OpSub, c, c, c), op(api.OpTimes), op(api.OpTimes, c), op(api.OpTimes, c, c, c), op(api.OpNeg), op(api.OpNeg, c, c), op(api.OpNot), op(api.OpNot, c, c), op(api.OpIf), op(api.OpIf, c), op(api.OpIf, c, c), op(api.OpIf, c, c, c, c),
		op(api.OpEq), op(api.OpEq, c), op(api.OpEq, c, c, c), op(api.OpGe, c), op(api.OpAbs), op(api.OpAbs, c, c), op(api.OpClamp, c, c), op(api.OpClamp, c, c, c, c), op(api.OpElse, c), op(api.OpElse, c, c, c), op(api.OpYear), op(api.OpYear, c, c), op(api.OpAge, c), op(api.OpMonths, c), op(api.OpDays, c), op(api.OpAddMonths, c),
		{Op: api.OpScale, Den: 1, Mode: 1}, scale(c, 1, 1, 0), scale(c, 1, 1, 6), scale(c, 1, 1, -1), scale(c, 1, 1, math.MinInt), {Op: api.OpSplit, Mode: 1, Args: []api.Expr{c}}, {Op: api.OpSplit, Args: []api.Expr{c, c}}, {Op: api.OpRound, Num: 1, Mode: 1}, {Op: api.OpRound, Num: api.MaxCents + 1, Mode: 1, Args: []api.Expr{c}}, {Op: api.OpRound, Num: 1, Mode: 7, Args: []api.Expr{c}},
		op(api.OpNot, bare), op(api.OpAdd, c, line(10)), op(api.OpIf, c, c, flag(2)),
	} {
		cannotWrite(t, e)
	}
}

// In each operator each field that it doesn't name.
func TestP5_14FieldsThatAreNotNamed(t *testing.T) {
	leaves := []api.Expr{cents(5), count(5), flag(1), day(5), choice(0, 1), line(0), of(api.OpSum, 0), of(api.OpUsed, 1), of(api.OpLeast, 0), of(api.OpGreatest, 0), of(api.OpAny, 0), of(api.OpAll, 0)}
	others := []api.Expr{
		op(api.OpAdd, c, c), op(api.OpSub, c, c), op(api.OpNeg, c), op(api.OpTimes, c, c), {Op: api.OpSplit, Mode: 1, Args: []api.Expr{c, c}}, op(api.OpMin, c, c), op(api.OpMax, c, c), op(api.OpAbs, c), op(api.OpClamp, c, c, c), {Op: api.OpRound, Num: 1, Mode: 1, Args: []api.Expr{c}}, of(api.OpBracket, 1, c),
		op(api.OpEq, c, c), op(api.OpNe, c, c), op(api.OpLt, c, c), op(api.OpLe, c, c), op(api.OpGt, c, c), op(api.OpGe, c, c), op(api.OpAnd, c, c), op(api.OpOr, c, c), op(api.OpNot, c), op(api.OpIf, c, c, c), op(api.OpIsBlank, c), op(api.OpElse, c, c), op(api.OpYear, c), op(api.OpAge, c, c), op(api.OpMonths, c, c), op(api.OpAddMonths, c, c), op(api.OpDays, c, c),
	}
	for _, e := range slices.Concat(leaves, others) {
		if _, err := rules.PrintExpr(e, over()); err != nil {
			t.Errorf("PrintExpr(%+v): %v", e, err)
		}
		x := e
		if x.Den = 7; e.Op != api.OpChoice {
			cannotWrite(t, x)
		}
		x = e
		if x.Mode = 2; e.Mode == 0 {
			cannotWrite(t, x)
		}
		x = e
		if x.Num = 1; e.Num == 0 && len(e.Args) > 0 {
			cannotWrite(t, x)
		}
	}
	for _, e := range leaves {
		e.Args = []api.Expr{c}
		cannotWrite(t, e)
		e.Args = []api.Expr{}
		if _, err := rules.PrintExpr(e, over()); err != nil {
			t.Errorf("an empty list isn't none: %+v, %v", e, err)
		}
	}
}

func TestP5_14Depth(t *testing.T) {
	writes(t, deepTimes(8), "c * c * c * c * c * c * c * c")
	cannotWrite(t, deepTimes(9))
	e := op(api.OpIsBlank, c)
	for range 6 {
		e = op(api.OpNot, e)
	}
	writes(t, e, "not not not not not not blank(c)")
	cannotWrite(t, op(api.OpNot, e))
}

func TestP5_14ParseExpr(t *testing.T) {
	for _, group := range []int{-1, 0, 1, 7, math.MinInt, math.MaxInt} {
		if e, err := rules.ParseExpr("sum(r) + c", over(), group); err != nil || text(e) != text(op(api.OpAdd, of(api.OpSum, lineR), c)) {
			t.Errorf("group %d: %+v, %v", group, e, err)
		}
	}
	for s, want := range map[string][2]int{"c\nc": {2, 0}, "c\n\n  (": {3, 2}, "c is": {1, 2}, "c\nis c": {2, 0}, "c\n#\n\"\"": {3, 0}, "c +\nc": {1, 3}, "(c\n)": {1, 2}, "c c": {1, 2}} {
		e, err := rules.ParseExpr(s, over(), 0)
		isMisread(t, s, err, want[0], want[1], api.ErrRulesToken)
		if text(e) != text(api.Expr{}) {
			t.Errorf("ParseExpr(%q): %+v", s, e)
		}
	}
	_, err := rules.ParseExpr("c", api.Pack{}, 0)
	isMisread(t, "c", err, 1, 0, api.ErrRulesName)
	// No name of a pack that is no name of the language can be told.
	odd := api.Pack{Lines: []api.Line{{Name: "is"}, {Name: ""}, {Name: "a b"}, {Name: "A"}, {Name: "abcdefghijklm"}, {Name: "a"}, {Name: "a + a"}}}
	for i := range odd.Lines {
		s, err := rules.PrintExpr(line(int64(i)), odd)
		if i == 5 && (err != nil || s != "a") || i != 5 && (err != api.ErrRulesPrint || s != "") {
			t.Errorf("line %d: %q, %v", i, s, err)
		}
	}
}
