package rules_test

import (
	"math"
	"math/rand"
	"slices"
	"strings"
	"testing"

	"levy/api"
	"levy/rules"
)

// The promises' words on memory and on ends, of all four calls.

// fillExpr writes into the spare room behind every list of an expression.
func fillExpr(e api.Expr) {
	spare := e.Args[len(e.Args):cap(e.Args)]
	for i := range spare {
		spare[i] = api.Expr{Op: -9, Num: -9, Args: []api.Expr{{Op: -9}}}
	}
	for _, a := range e.Args {
		fillExpr(a)
	}
}

func fill[T any](l []T, with T) {
	spare := l[len(l):cap(l)]
	for i := range spare {
		spare[i] = with
	}
}

// fillPack writes into the spare room behind every list of a pack.
func fillPack(p api.Pack) {
	fill(p.Options, api.Options{Name: "-9"})
	fill(p.Tables, api.Table{Name: "-9"})
	fill(p.Groups, api.Group{Name: "-9"})
	fill(p.Lines, api.Line{Name: "-9"})
	fill(p.Checks, api.Check{Name: "-9"})
	for _, o := range p.Options {
		fill(o.Names, "-9")
	}
	for _, t := range p.Tables {
		fill(t.Bands, api.Band{From: -9})
	}
	for _, l := range p.Lines {
		fill(l.Clauses, api.Clause{Priority: -9})
		for _, c := range l.Clauses {
			fillExpr(c.Guard)
			fillExpr(c.Body)
		}
	}
	for _, c := range p.Checks {
		fillExpr(c.When)
	}
}

func TestP5_5AnswersAreNewMemory(t *testing.T) {
	r := rand.New(rand.NewSource(5))
	for range 300 {
		want := madePack(r)
		s, err := rules.Print(want)
		if err != nil {
			continue
		}
		one, other := parsed(t, s), parsed(t, s)
		fillPack(one)
		if text(one) != text(want) || text(other) != text(want) {
			t.Fatalf("lists of one answer share their room: %q", s)
		}
		for i := range one.Lines {
			one.Lines[i].Name = "-9"
			for j := range one.Lines[i].Clauses {
				one.Lines[i].Clauses[j].Body.Op = -9
			}
		}
		if text(other) != text(want) {
			t.Fatalf("two answers share memory: %q", s)
		}
	}
	for _, s := range []string{"c + n + d - r + c", "c or n or d", "min(c, n, d, min(c, n, d))", "(c + n + d) + c", "c * n * d", "if f then c else n + d + r", "blank(c) and blank(n) and blank(d)"} {
		e, err := rules.ParseExpr(s, over(), 0)
		was := text(e)
		if fillExpr(e); err != nil || text(e) != was {
			t.Errorf("%q: %v", s, err)
		}
	}
}

// withRoom: lists with something behind them, which must stay.
func withRoom(r *rand.Rand) (api.Pack, api.Expr) {
	p := madePack(r)
	p.Lines = append(p.Lines, api.Line{Name: "more"})[:len(p.Lines)]
	p.Options = append(p.Options, api.Options{Name: "more"})[:len(p.Options)]
	p.Groups = append(p.Groups, api.Group{Name: "more"})[:len(p.Groups)]
	e := madeExpr(r, p, 4)
	e.Args = append(e.Args, cents(7))[:len(e.Args)]
	return p, e
}

func TestP5_12ArgumentsStay(t *testing.T) {
	r := rand.New(rand.NewSource(6))
	whole := func(p api.Pack, e api.Expr) string {
		return text(p) + text(e) + text(p.Lines[:len(p.Lines)+1][len(p.Lines)]) + text(p.Options[:len(p.Options)+1][len(p.Options)]) + text(p.Groups[:len(p.Groups)+1][len(p.Groups)]) + text(e.Args[:len(e.Args)+1][len(e.Args)])
	}
	for range 500 {
		p, e := withRoom(r)
		was := whole(p, e)
		rules.Print(p)
		s, _ := rules.PrintExpr(e, p)
		got, err := rules.ParseExpr(s, p, 0)
		if whole(p, e) != was {
			t.Fatalf("an argument has changed: %q", s)
		}
		// What was answered doesn't hang on what was handed in any more.
		for i := range p.Lines {
			p.Lines[i].Name = "-9"
		}
		told := text(got)
		for i := range e.Args {
			e.Args[i] = api.Expr{Op: -9}
		}
		if err == nil && text(got) != told {
			t.Fatalf("an answer has changed: %q", s)
		}
	}
}

func TestP5_12EmptyListsAreNone(t *testing.T) {
	p := simplePack()
	none := []api.Expr{}
	p.Lines[0].Clauses = []api.Clause{}
	p.Lines[3].Clauses[0].Guard.Args = none
	p.Lines[4].Clauses[1].Body.Args = none
	p.Lines[4].Clauses[0].Body.Args[1].Args = none
	prints(t, p, simple)
	prints(t, api.Pack{Name: "a", Options: []api.Options{}, Tables: []api.Table{}, Groups: []api.Group{}, Lines: []api.Line{}, Checks: []api.Check{}}, "pack a 0\n")
}

// Texts of all kinds of pieces: every one is answered, by a pack or by a place in it.
func TestP5_1EveryTextIsAnswered(t *testing.T) {
	r := rand.New(rand.NewSource(7))
	pieces := append(strings.Fields(vocabulary), " ", "\n", "\n", "\t", "#", "\"", "\\", "@", "\x00", "\xff", "é", "00", "1.0", "pack a 1\n", "line a cents\n is ", "check c \"\"\n when ", "options o: a, b\n", "((((", "))))")
	for range 40000 {
		s := pick(r, "", "pack a 1\n")
		for range r.Intn(30) {
			s += pick(r, pieces...) + pick(r, "", " ")
		}
		p, err := rules.Parse(s)
		placed(t, s, err)
		if err != nil && text(p) != text(api.Pack{}) {
			t.Fatalf("%q: %+v beside %v", s, p, err)
		}
		e, err := rules.ParseExpr(s, over(), r.Intn(3)-1)
		placed(t, s, err)
		if err != nil && text(e) != text(api.Expr{}) {
			t.Fatalf("%q: %+v beside %v", s, e, err)
		}
	}
}

// placed asks that an error is a misreading within the text, of a number of layer 4 or 5.
func placed(t *testing.T, s string, err error) {
	t.Helper()
	if err == nil {
		return
	}
	m, ok := err.(*api.Misread)
	if !ok {
		t.Fatalf("%q: %v", s, err)
	}
	l := strings.Split(s, "\n")
	e, ok := m.Err.(api.Errno)
	if !ok || m.Line < 1 || m.Line > len(l) || m.At < 0 || m.At > len(l[m.Line-1]) || e < api.ErrWordsLong || e > api.ErrRulesEnd || e == api.ErrWordsPrint {
		t.Fatalf("%q: %v", s, err)
	}
}

// The deepest and the widest that a text has room for.
func TestP5_10GreatTexts(t *testing.T) {
	head := "pack a 1\nline c cents\nis "
	room := api.MaxRuleText - len(head)
	half := room/2 - 1
	misread(t, head+strings.Repeat("(", room), 3, 3+room, api.ErrRulesToken)
	isRead(t, strings.Repeat("(", 3000)+"c"+strings.Repeat(")", 3000))
	parsed(t, head+strings.Repeat("(", half)+"c"+strings.Repeat(")", half))
	misread(t, head+strings.Repeat("-", room-1)+"c", 3, 3, api.ErrRulesDeep)
	misread(t, head+strings.Repeat("not ", room/4-1)+"c", 3, 3, api.ErrRulesDeep)
	misread(t, head+strings.Repeat("c*", half)+"c", 3, 3, api.ErrRulesDeep)
	misread(t, head+strings.Repeat("c-", half)+"c", 3, 3, api.ErrRulesDeep)
	misread(t, head+strings.Repeat("abs(", room/5-1)+"c"+strings.Repeat(")", room/5-1), 3, 3, api.ErrRulesDeep)
	misread(t, head+strings.Repeat("if ", room/3-1)+"c", 3, 3+3*(room/3-1)+1, api.ErrRulesToken)
	misread(t, head+strings.Repeat("(", room+1), 1, 0, api.ErrWordsLong)
}

// What has no end or no room as a tree: lists that hold themselves, lists that are shared, very many of them.
func TestP5_14StrangeExprs(t *testing.T) {
	ring := make([]api.Expr, 3)
	for o := range 43 {
		for k := 1; k <= 3; k++ {
			for i := range k {
				ring[i] = api.Expr{Op: o, Mode: 1, Args: ring[:k]}
			}
			// Such a list can't be told in a message.
			if s, err := rules.PrintExpr(ring[0], over()); err != api.ErrRulesPrint || s != "" {
				t.Errorf("operator %d, %d arguments: %q, %v", o, k, s, err)
			}
		}
	}
	ring[0] = api.Expr{Op: api.OpSub, Args: ring[:2]}
	shared := c
	for range 60 {
		shared = op(api.OpAdd, shared, shared)
	}
	cannotWrite(t, shared)
	full := c
	for range 7 {
		full = op(api.OpMax, full, full, full, full, full, full)
	}
	cannotWrite(t, full)
	deep := c
	for range 1 << 16 {
		deep = op(api.OpNeg, deep)
	}
	cannotWrite(t, deep)
	cannotWrite(t, op(api.OpAbs, slices.Repeat([]api.Expr{c}, 1<<20)...))
	cannotWrite(t, op(api.OpOr, slices.Repeat([]api.Expr{{Op: api.OpLine, Num: 1}}, 1<<20)...))
	p := simplePack()
	p.Checks[0].When = ring[0]
	cannotPrint(t, "a list that holds itself", p)
	p.Checks[0].When = shared
	cannotPrint(t, "shared lists", p)
	p = simplePack()
	p.Lines[4].Clauses = slices.Repeat(p.Lines[4].Clauses, 1<<16)
	cannotPrint(t, "very many clauses", p)
}

// Packs of any numbers: each has its one text or none.
func TestP5_12EveryPackIsAnswered(t *testing.T) {
	r := rand.New(rand.NewSource(8))
	odd := func() int {
		return pick(r, 0, 0, 1, 1, 2, 3, 5, 6, -1, -1, -2, 9, 41, 42, api.MaxCount, api.MaxCount+1, math.MaxInt, math.MinInt, r.Intn(45))
	}
	var expr func(deep int) api.Expr
	expr = func(deep int) api.Expr {
		e := api.Expr{Op: 1 + r.Intn(42), Num: int64(odd()), Den: int64(pick(r, 0, 0, odd())), Mode: pick(r, 0, 0, odd())}
		for range r.Intn(3) * min(deep, 1) {
			e.Args = append(e.Args, expr(deep-1))
		}
		return e
	}
	printed := 0
	for range 40000 {
		p := api.Pack{Name: pick(r, "a", "is", ""), Year: odd()}
		for range r.Intn(2) {
			p.Options = append(p.Options, api.Options{Name: pick(r, "o", "a"), Names: []string{"x", "y", ""}[:r.Intn(4)]})
			p.Tables = append(p.Tables, api.Table{Name: pick(r, "t", "a"), Bands: []api.Band{{From: int64(odd()), Rate: int64(odd())}}})
			p.Groups = append(p.Groups, api.Group{Name: pick(r, "g", "a"), Rows: odd()})
		}
		for _, name := range []string{"c", "d", "c", "in"}[:r.Intn(4)] {
			l := api.Line{Name: name, Input: r.Intn(2) == 0, Must: r.Intn(2) == 0, Type: 1 + r.Intn(6), Options: pick(r, -1, -1, odd()), Group: pick(r, -1, -1, odd())}
			for range r.Intn(2) {
				l.Clauses = append(l.Clauses, api.Clause{Priority: odd(), Guarded: r.Intn(2) == 0, Guard: pick(r, api.Expr{}, expr(1)), Body: expr(1)})
			}
			p.Lines = append(p.Lines, l)
		}
		s, err := rules.Print(p)
		if err == nil {
			printed++
			reads(t, s, p)
		} else if err != api.ErrRulesPrint || s != "" {
			t.Fatalf("%+v: %q, %v", p, s, err)
		}
		e := expr(2)
		if s, err := rules.PrintExpr(e, p); err == nil {
			printed++
			if got, err := rules.ParseExpr(s, p, 0); err != nil || text(got) != text(e) {
				t.Fatalf("%+v: %q is %+v, %v", e, s, got, err)
			}
		} else if err != api.ErrRulesPrint || s != "" {
			t.Fatalf("%+v: %q, %v", e, s, err)
		}
	}
	if printed < 500 {
		t.Errorf("only %d had a text", printed)
	}
}
