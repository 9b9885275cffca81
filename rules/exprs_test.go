package rules_test

import (
	"strings"
	"testing"

	"levy/api"
	"levy/rules"
)

var (
	c, n, f, d = line(lineC), line(lineN), line(lineF), line(lineD)
	r          = line(lineR)
)

// Each row of the table of forms, and how each holds its operands against the rows next to it.
func TestP5_8Rows(t *testing.T) {
	for s, want := range map[string]api.Expr{
		"if f then c else n":                  op(api.OpIf, f, c, n),
		"if if f then f else f then c else n": op(api.OpIf, op(api.OpIf, f, f, f), c, n),
		"if f then if f then c else n else d": op(api.OpIf, f, op(api.OpIf, f, c, n), d),
		"if f then c else if f then n else d": op(api.OpIf, f, c, op(api.OpIf, f, n, d)),
		"if f or n then c + c else c and n":   op(api.OpIf, op(api.OpOr, f, n), op(api.OpAdd, c, c), op(api.OpAnd, c, n)),
		"f or n":                              op(api.OpOr, f, n),
		"f or n or c or d or r or f":          op(api.OpOr, f, n, c, d, r, f),
		"(f or n) or c":                       op(api.OpOr, op(api.OpOr, f, n), c),
		"f or (n or c)":                       op(api.OpOr, f, op(api.OpOr, n, c)),
		"f and n and c and d and r and f":     op(api.OpAnd, f, n, c, d, r, f),
		"f or n and c or d":                   op(api.OpOr, f, op(api.OpAnd, n, c), d),
		"f and n or c and d":                  op(api.OpOr, op(api.OpAnd, f, n), op(api.OpAnd, c, d)),
		"(f or n) and c":                      op(api.OpAnd, op(api.OpOr, f, n), c),
		"not f":                               op(api.OpNot, f),
		"not not f":                           op(api.OpNot, op(api.OpNot, f)),
		"not f and n":                         op(api.OpAnd, op(api.OpNot, f), n),
		"f and not n or not c":                op(api.OpOr, op(api.OpAnd, f, op(api.OpNot, n)), op(api.OpNot, c)),
		"not c = n":                           op(api.OpNot, op(api.OpEq, c, n)),
		"(not c) = n":                         op(api.OpEq, op(api.OpNot, c), n),
		"c = n":                               op(api.OpEq, c, n),
		"c != n":                              op(api.OpNe, c, n),
		"c < n":                               op(api.OpLt, c, n),
		"c <= n":                              op(api.OpLe, c, n),
		"c > n":                               op(api.OpGt, c, n),
		"c >= n":                              op(api.OpGe, c, n),
		"c + n < d - r":                       op(api.OpLt, op(api.OpAdd, c, n), op(api.OpSub, d, r)),
		"c < n and d < r":                     op(api.OpAnd, op(api.OpLt, c, n), op(api.OpLt, d, r)),
		"(c < n) = (d < r)":                   op(api.OpEq, op(api.OpLt, c, n), op(api.OpLt, d, r)),
		"c * n":                               op(api.OpTimes, c, n),
		"c * n * d * r":                       op(api.OpTimes, op(api.OpTimes, op(api.OpTimes, c, n), d), r),
		"c * (n * d)":                         op(api.OpTimes, c, op(api.OpTimes, n, d)),
		"c + n * d + r":                       op(api.OpAdd, c, op(api.OpTimes, n, d), r),
		"c - n * d":                           op(api.OpSub, c, op(api.OpTimes, n, d)),
		"(c + n) * d":                         op(api.OpTimes, op(api.OpAdd, c, n), d),
		"-c":                                  op(api.OpNeg, c),
		"--c":                                 op(api.OpNeg, op(api.OpNeg, c)),
		"-c * -n":                             op(api.OpTimes, op(api.OpNeg, c), op(api.OpNeg, n)),
		"-(c * n)":                            op(api.OpNeg, op(api.OpTimes, c, n)),
		"-c + -n":                             op(api.OpAdd, op(api.OpNeg, c), op(api.OpNeg, n)),
		"c - -n":                              op(api.OpSub, c, op(api.OpNeg, n)),
		"c--n":                                op(api.OpSub, c, op(api.OpNeg, n)),
		"(c)":                                 c,
		"((((c))))":                           c,
		"((if f then c else n))":              op(api.OpIf, f, c, n),
		"(if f then c else n) + (if f then n else c)": op(api.OpAdd, op(api.OpIf, f, c, n), op(api.OpIf, f, n, c)),
	} {
		readsExpr(t, s, want)
	}
}

// A - directly ahead of an amount or a count makes the opposite number; ahead of all else it is OpNeg, and behind an operand OpSub.
func TestP5_8OppositeNumbers(t *testing.T) {
	for s, want := range map[string]api.Expr{
		"-5.00": cents(-500), "- 5.00": cents(-500), "-\t5": count(-5), "-5": count(-5), "-0": count(0), "-0.00": cents(0),
		"--5.00": op(api.OpNeg, cents(-500)), "---5": op(api.OpNeg, op(api.OpNeg, count(-5))),
		"-(5.00)": op(api.OpNeg, cents(500)), "-(-5)": op(api.OpNeg, count(-5)), "-((5))": op(api.OpNeg, count(5)),
		"-2024-02-29": op(api.OpNeg, day(45349)), "-yes": op(api.OpNeg, flag(1)), "-o.y": op(api.OpNeg, choice(0, 1)),
		"c -5.00": op(api.OpSub, c, cents(500)), "c--5.00": op(api.OpSub, c, cents(-500)), "c - -(5)": op(api.OpSub, c, op(api.OpNeg, count(5))),
		"-5.00 * -3": op(api.OpTimes, cents(-500), count(-3)), "-5 - 3": op(api.OpSub, count(-5), count(3)),
		"-99999999999.99": cents(-api.MaxCents), "-1000000000": count(-api.MaxCount),
	} {
		readsExpr(t, s, want)
	}
	misreadExpr(t, "-5%", 1, api.ErrRulesToken)
	misreadExpr(t, "-", 1, api.ErrRulesToken)
	misreadExpr(t, "c - - +", 6, api.ErrRulesToken)
}

func TestP5_8Refused(t *testing.T) {
	for s, at := range map[string]int{
		"c = n = d": 6, "c < n >= d": 6, "c = not f": 4, "c + not f": 4, "-not f": 1, "not if f then c else n": 4, "c + if f then c else n": 4, "f or if f then c else n": 5, "c < if f then c else n": 4,
		"if f": 4, "if f then": 9, "if f then c": 11, "if f then c else": 16, "if f then c then n": 12, "if f else c": 5, "if then c else n": 3, "then": 0,
		"f or": 4, "f or or f": 5, "or f": 0, "f and": 5, "and": 0, "not": 3, "c +": 3, "+c": 0, "c + + c": 4, "c * + c": 4, "* c": 0, "c *": 3, "c /  c": 2, "c =": 3, "= c": 0, "c == c": 3,
		"()": 1, "(c": 2, "(c n)": 3, "(c,n)": 2, "c)": 1, ")": 0, "((c)": 4, "c n": 2, "c 5": 2, "5 5": 2, "5%": 0, ". x": 0, ",": 0, ":": 0, "/": 0, "\"\"": 0, "yes(c)": 3, "no.x": 2, "yes no": 4,
	} {
		misreadExpr(t, s, at, api.ErrRulesToken)
	}
}

func TestP5_9Sums(t *testing.T) {
	add := func(l ...api.Expr) api.Expr { return op(api.OpAdd, l...) }
	sub := func(a, b api.Expr) api.Expr { return op(api.OpSub, a, b) }
	for s, want := range map[string]api.Expr{
		"c + n":                   add(c, n),
		"c + n + d":               add(c, n, d),
		"c + n + d + r + f + c":   add(c, n, d, r, f, c),
		"c - n":                   sub(c, n),
		"c - n - d":               sub(sub(c, n), d),
		"c + n - d + r":           add(sub(add(c, n), d), r),
		"c - n + d + r":           add(sub(c, n), d, r),
		"c - n + d - r + f + c":   add(sub(add(sub(c, n), d), r), f, c),
		"c + n + d - r":           sub(add(c, n, d), r),
		"(c + n) + d":             add(add(c, n), d),
		"((c + n)) + d + r":       add(add(c, n), d, r),
		"c + (n + d)":             add(c, add(n, d)),
		"c + (n + d) + r":         add(c, add(n, d), r),
		"(c - n) + d":             add(sub(c, n), d),
		"c - (n + d)":             sub(c, add(n, d)),
		"c - (n - d)":             sub(c, sub(n, d)),
		"(c + n) - d":             sub(add(c, n), d),
		"(c + n - d) + r":         add(sub(add(c, n), d), r),
		"((c + n) + d) + (r + f)": add(add(add(c, n), d), add(r, f)),
	} {
		readsExpr(t, s, want)
	}
	// Six operands of each of two sums that a - parts.
	readsExpr(t, "c + c + c + c + c + c - n + c + c + c + c + c", add(sub(add(c, c, c, c, c, c), n), c, c, c, c, c))
}

func TestP5_10Many(t *testing.T) {
	for sign, o := range map[string]int{" or ": api.OpOr, " and ": api.OpAnd, " + ": api.OpAdd} {
		six := "c" + strings.Repeat(sign+"c", 5)
		readsExpr(t, six, op(o, c, c, c, c, c, c))
		misreadExpr(t, six+sign+"c", len(six)+1, api.ErrRulesMany)
		// Whatever stands behind the seventh's word or sign, and whatever the depth.
		misreadExpr(t, six+sign+") )", len(six)+1, api.ErrRulesMany)
		misreadExpr(t, six+sign+"none", len(six)+1, api.ErrRulesMany)
		misreadExpr(t, "("+six+")"+sign+"("+six+sign+"c)", len(six)+2+len(sign)+1+len(six)+1, api.ErrRulesMany)
		readsExpr(t, "("+six+")"+sign+"c", op(o, op(o, c, c, c, c, c, c), c))
	}
	for name, o := range map[string]int{"min": api.OpMin, "max": api.OpMax} {
		six := name + "(c" + strings.Repeat(", c", 5)
		readsExpr(t, six+")", op(o, c, c, c, c, c, c))
		misreadExpr(t, six+", c)", len(six), api.ErrRulesMany)
		misreadExpr(t, six+",", len(six), api.ErrRulesMany)
	}
	misreadExpr(t, "c - n + c + c + c + c + c + c", 26, api.ErrRulesMany)
	// No other operator has such a bound: a product goes down by one a factor.
	readsExpr(t, "c * c * c * c * c * c * c * c", deepTimes(8))
}

func deepTimes(factors int) api.Expr {
	e := c
	for range factors - 1 {
		e = op(api.OpTimes, e, c)
	}
	return e
}

func TestP5_10Deep(t *testing.T) {
	nots := func(k int) string { return strings.Repeat("not ", k) }
	e := f
	for range 7 {
		e = op(api.OpNot, e)
	}
	readsExpr(t, nots(7)+"f", e)
	misreadExpr(t, nots(8)+"f", 0, api.ErrRulesDeep)
	misreadExpr(t, "  "+nots(1800)+"f", 2, api.ErrRulesDeep)
	misreadExpr(t, "c * c * c * c * c * c * c * c * c", 0, api.ErrRulesDeep)
	misreadExpr(t, "c - c - c - c - c - c - c - c - c", 0, api.ErrRulesDeep)
	// Constants, lines and aggregates have depth 1, parentheses none; blank of a line has depth 2.
	for _, leaf := range []string{"f", "1.00", "-1.00", "7", "-7", "yes", "2024-01-01", "o.x", "sum(r)", "used(g)", "least(r)", "greatest(r)", "any(r)", "all(r)"} {
		isRead(t, nots(7)+leaf)
		isRead(t, "((((((((("+nots(7)+"(((((((("+leaf+")))))))))))))))))")
		misreadExpr(t, nots(8)+leaf, 0, api.ErrRulesDeep)
		misreadExpr(t, " ("+nots(8)+leaf+")", 1, api.ErrRulesDeep)
	}
	for _, two := range []string{"blank(r)", "-f", "-(1.00)", "abs(c)", "min(c, c)", "clamp(c, c, c)", "scale(c, 1%, up)", "split(c, c, up)", "round(c, 1.00, up)", "bracket(t, c)", "either(c, c)", "year(c)", "age(c, c)", "months(c, c)", "days(c, c)", "addmonths(c, c)", "(c = c)", "(c + c)", "(c or c)", "(c and c)", "(if c then c else c)"} {
		isRead(t, nots(6)+two)
		misreadExpr(t, nots(7)+two, 0, api.ErrRulesDeep)
	}
	// The deepest argument counts, wherever it stands.
	for _, s := range []string{"min(c, " + nots(7) + "f)", "min(" + nots(7) + "f, c)", "clamp(c, " + nots(7) + "f, c)", "if " + nots(7) + "f then c else c", "if c then c else " + nots(7) + "f", "c + (" + nots(7) + "f) + c"} {
		misreadExpr(t, s, 0, api.ErrRulesDeep)
		isRead(t, strings.Replace(s, "not ", "", 1))
	}
}

func isRead(t *testing.T, s string) {
	t.Helper()
	parsed(t, "pack p 2024\n"+overText+"line a cents\n  is "+s)
}

// It is told when the expression is read whole: behind what is wrong in it, ahead of what is wrong behind it.
func TestP5_10DeepWhenRead(t *testing.T) {
	deep := strings.Repeat("not ", 8) + "f"
	misreadExpr(t, deep+" and none", len(deep)+5, api.ErrRulesName)
	misreadExpr(t, deep+" and", len(deep)+4, api.ErrRulesToken)
	misreadExpr(t, deep+" )", 0, api.ErrRulesDeep)
	misreadExpr(t, "("+deep, len(deep)+1, api.ErrRulesToken)
	misreadExpr(t, "min(c, "+deep+", c", len(deep)+10, api.ErrRulesToken)
	head := "pack p 2024\n" + overText + "line a cents\n"
	at := 1 + strings.Count(head, "\n")
	misread(t, head+"  at 7 when "+deep+" is none", at, 12, api.ErrRulesDeep)
	misread(t, head+"  at 7 when f is "+deep+"\nis", at, 17, api.ErrRulesDeep)
	misread(t, head+"  at 7 when none is "+deep, at, 12, api.ErrRulesName)
}

func TestP5_11Constants(t *testing.T) {
	for s, want := range map[string]api.Expr{
		"0.00": cents(0), "12.34": cents(1234), "99999999999.99": cents(api.MaxCents), "0": count(0), "12": count(12), "1000000000": count(api.MaxCount),
		"yes": flag(1), "no": flag(0), "1900-01-01": day(0), "2024-02-29": day(45349), "2199-12-31": day(api.MaxDay),
		"o.x": choice(0, 0), "o.y": choice(0, 1), "h.down": choice(1, 0), "h.x": choice(1, 1), "o . y": choice(0, 1),
	} {
		readsExpr(t, s, want)
	}
	misreadExpr(t, "none.x", 0, api.ErrRulesName)
	misreadExpr(t, "none.5", 0, api.ErrRulesName)
	misreadExpr(t, "c.x", 0, api.ErrRulesName)
	misreadExpr(t, "g.x", 0, api.ErrRulesName)
	misreadExpr(t, "sum.x", 0, api.ErrRulesName)
	misreadExpr(t, "o.down", 2, api.ErrRulesName)
	misreadExpr(t, "o.o )", 2, api.ErrRulesName)
	misreadExpr(t, "o.5", 2, api.ErrRulesToken)
	misreadExpr(t, "o.", 2, api.ErrRulesToken)
	misreadExpr(t, "o.x.y", 3, api.ErrRulesToken)
	misreadExpr(t, "o.x(c)", 3, api.ErrRulesToken)
}

func TestP5_11Lines(t *testing.T) {
	readsExpr(t, "c", c)
	readsExpr(t, "n", n)
	readsExpr(t, "sum", line(lineSum))
	readsExpr(t, "min + sum", op(api.OpAdd, line(lineMin), line(lineSum)))
	misreadExpr(t, "none", 0, api.ErrRulesName)
	misreadExpr(t, "none none", 0, api.ErrRulesName)
	misreadExpr(t, "c + none", 4, api.ErrRulesName)
	misreadExpr(t, "x", 0, api.ErrRulesName)
	misreadExpr(t, "max", 0, api.ErrRulesName)
	misreadExpr(t, "t", 0, api.ErrRulesName)
	misreadExpr(t, "g", 0, api.ErrRulesName)
	// Neither a ( nor a . on the line below is behind a name.
	for _, s := range []string{"c\n(c)", "c\n.x"} {
		_, err := rules.ParseExpr(s, over(), -1)
		isMisread(t, s, err, 2, 0, api.ErrRulesToken)
	}
}

func TestP5_11Calls(t *testing.T) {
	for s, want := range map[string]api.Expr{
		"sum(c)": of(api.OpSum, 0), "sum(sum)": of(api.OpSum, lineSum), "least(r)": of(api.OpLeast, lineR), "greatest(r)": of(api.OpGreatest, lineR), "any(f)": of(api.OpAny, lineF), "all(f)": of(api.OpAll, lineF),
		"used(g)": of(api.OpUsed, 0), "used(k)": of(api.OpUsed, 1), "blank(n)": op(api.OpIsBlank, n),
		"min(c, n)": op(api.OpMin, c, n), "min(c, n, d)": op(api.OpMin, c, n, d), "max(c, n)": op(api.OpMax, c, n), "max(min, sum)": op(api.OpMax, line(lineMin), line(lineSum)), "min(min(c, n), min)": op(api.OpMin, op(api.OpMin, c, n), line(lineMin)),
		"abs(c)": op(api.OpAbs, c), "clamp(c, n, d)": op(api.OpClamp, c, n, d),
		"split(c, n, down)":  {Op: api.OpSplit, Mode: api.Down, Args: []api.Expr{c, n}},
		"round(c, 5.00, up)": {Op: api.OpRound, Num: 500, Mode: api.Up, Args: []api.Expr{c}}, "round(c, -5.00, up)": {Op: api.OpRound, Num: -500, Mode: api.Up, Args: []api.Expr{c}}, "round(c, - 0.00, up)": {Op: api.OpRound, Mode: api.Up, Args: []api.Expr{c}},
		"bracket(t, c)": of(api.OpBracket, 0, c), "bracket(u, c + n)": of(api.OpBracket, 1, op(api.OpAdd, c, n)),
		"either(c, n)": op(api.OpElse, c, n), "year(d)": op(api.OpYear, d), "age(d, c)": op(api.OpAge, d, c), "months(d, c)": op(api.OpMonths, d, c), "days(d, c)": op(api.OpDays, d, c), "addmonths(d, n)": op(api.OpAddMonths, d, n),
		"abs(if f then c else n)": op(api.OpAbs, op(api.OpIf, f, c, n)), "either(f or f, c = n)": op(api.OpElse, op(api.OpOr, f, f), op(api.OpEq, c, n)), "abs ( c )": op(api.OpAbs, c),
	} {
		readsExpr(t, s, want)
	}
}

func TestP5_11CallsRefused(t *testing.T) {
	for s, at := range map[string]int{
		"none(c)": 0, "c(c)": 0, "down(c)": 0, "none()": 0, "o(c)": 0, "sum(none)": 4, "sum(g)": 4, "least(none c)": 6, "any(x)": 4, "used(none)": 5, "used(c)": 5, "used(o)": 5, "blank(none)": 6, "bracket(none, c)": 8, "bracket(c, c)": 8, "bracket(g, none)": 8, "bracket(t, none)": 11, "abs(none)": 4, "scale(none, 5, 5)": 6, "age(c, none)": 7, "blank(g)": 6, "split(c, up)": 9,
	} {
		misreadExpr(t, s, at, api.ErrRulesName)
	}
	for s, at := range map[string]int{
		"sum()": 4, "sum(c, c)": 5, "sum(c": 5, "sum(c + c)": 6, "sum((c))": 4, "sum(5.00)": 4, "sum(-c)": 4, "sum(sum(c))": 7, "used()": 5, "used(g, g)": 6, "blank()": 6, "blank(c, c)": 7, "blank((c))": 6, "blank(5)": 6, "blank(c.x)": 7,
		"min()": 4, "min(c)": 5, "min(c,)": 6, "min(c n)": 6, "min(c, n,)": 9, "min(c, n": 8, "max(c)": 5, "abs()": 4, "abs(c, c)": 5, "clamp(c, c)": 10, "clamp(c, c, c, c)": 13, "clamp(c)": 7,
		"scale(c)": 7, "scale(c, 5%)": 11, "scale(c, 5, up)": 10, "scale(c, 5/, up)": 11, "scale(c, 5/5%, up)": 11, "scale(c, 5/-5, up)": 11, "scale(c, 5.00, up)": 9, "scale(c, --5%, up)": 10, "scale(c, c, up)": 9, "scale(c, -, up)": 10, "scale(c, 5%, 5)": 13, "scale(c, 5%, up, up)": 15, "scale(c, (5%), up)": 9, "scale(c, 5%/5, up)": 11,
		"split(c, c)": 10, "split(c, c, sideways)": 12, "split(c, c, when)": 12, "split(c, c, \"up\")": 12, "split(c, c, up": 14,
		"round(c, 5, up)": 9, "round(c, 5%, up)": 9, "round(c, --5.00, up)": 10, "round(c, 5.00)": 13, "round(c, (5.00), up)": 9, "round(5.00, 5, up)": 12, "round(c, c, up)": 9,
		"bracket(t)": 9, "bracket(5, c)": 8, "bracket(t, c, c)": 12, "either(c)": 8, "either(c, c, c)": 11, "year()": 5, "year(d, d)": 6, "age(d)": 5, "age(d, d, d)": 8, "months(d)": 8, "days(d)": 6, "addmonths(d)": 11, "addmonths(d, n, n)": 14,
	} {
		misreadExpr(t, s, at, api.ErrRulesToken)
	}
}

func TestP5_11Ratios(t *testing.T) {
	for s, want := range map[string][2]int64{
		"7.5%": {3, 40}, "-7.5%": {-3, 40}, "- 7.5%": {-3, 40}, "0%": {0, 1}, "-0%": {0, 1}, "100%": {1, 1}, "100000000000%": {1000000000, 1}, "0.000001%": {1, 100000000},
		"75/1000": {75, 1000}, "-75/1000": {-75, 1000}, "0/5": {0, 5}, "-0/5": {0, 5}, "5/0": {5, 0}, "0/0": {0, 0}, "1000000000/1000000000": {1000000000, 1000000000}, "1 / 3": {1, 3},
	} {
		readsExpr(t, "scale(c, "+s+", down)", scale(c, want[0], want[1], api.Down))
	}
}

func TestP5_11Modes(t *testing.T) {
	for s, want := range map[string]int{"down": 1, "up": 2, "inward": 3, "halfup": 4, "halfeven": 5} {
		readsExpr(t, "scale(c, 1%, "+s+")", scale(c, 1, 100, want))
		readsExpr(t, "split(c, n, "+s+")", api.Expr{Op: api.OpSplit, Mode: want, Args: []api.Expr{c, n}})
		readsExpr(t, "round(c, 1.00, "+s+")", api.Expr{Op: api.OpRound, Num: 100, Mode: want, Args: []api.Expr{c}})
	}
	for _, s := range []string{"downs", "half", "c", "halfodd", "1", "yes", "(up)", "-up", "in"} {
		misreadExpr(t, "scale(c, 1%, "+s+")", 13, api.ErrRulesToken)
	}
}
