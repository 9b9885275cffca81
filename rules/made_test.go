package rules_test

import (
	"fmt"
	"math/rand"
	"strings"

	"levy/api"
)

func pick[T any](r *rand.Rand, l ...T) T { return l[r.Intn(len(l))] }

// madeExpr: an expression that has a text over a pack, at most so deep.
func madeExpr(r *rand.Rand, p api.Pack, deep int) api.Expr {
	if deep == 1 || r.Intn(4) == 0 {
		return madeLeaf(r, p)
	}
	args := func(k int) []api.Expr {
		l := make([]api.Expr, k)
		for i := range l {
			l[i] = madeExpr(r, p, 1+r.Intn(deep-1))
		}
		return l
	}
	e := api.Expr{Op: api.OpAdd + r.Intn(api.OpDays-api.OpAdd+1)}
	switch e.Op {
	case api.OpAdd, api.OpMin, api.OpMax, api.OpAnd, api.OpOr:
		e.Args = args(2 + r.Intn(pick(r, 1, 5)))
	case api.OpNeg, api.OpAbs, api.OpNot, api.OpYear:
		e.Args = args(1)
	case api.OpClamp, api.OpIf:
		e.Args = args(3)
	case api.OpScale:
		e.Num, e.Den, e.Mode, e.Args = madeNum(r, api.MaxRatio), pick(r, 1, 8, 1000, r.Int63n(api.MaxRatio+1)), 1+r.Intn(5), args(1)
	case api.OpSplit:
		e.Mode, e.Args = 1+r.Intn(5), args(2)
	case api.OpRound:
		e.Num, e.Mode, e.Args = madeNum(r, api.MaxCents), 1+r.Intn(5), args(1)
	case api.OpBracket:
		if len(p.Tables) == 0 {
			return madeLeaf(r, p)
		}
		e.Num, e.Args = r.Int63n(int64(len(p.Tables))), args(1)
	case api.OpIsBlank:
		if len(p.Lines) == 0 {
			return madeLeaf(r, p)
		}
		e.Args = []api.Expr{line(r.Int63n(int64(len(p.Lines))))}
	default:
		e.Args = args(2)
	}
	return e
}

// madeNum: a number from -most to most, often one near its bounds or 0.
func madeNum(r *rand.Rand, most int64) int64 {
	n := pick(r, 0, 1, 100, most, r.Int63n(most), r.Int63n(1000))
	return n * pick[int64](r, 1, -1)
}

func madeLeaf(r *rand.Rand, p api.Pack) api.Expr {
	switch o := api.OpCents + r.Intn(api.OpAll); {
	case o == api.OpCents:
		return cents(madeNum(r, api.MaxCents))
	case o == api.OpFlag:
		return flag(r.Int63n(2))
	case o == api.OpDay:
		return day(pick(r, 0, api.MaxDay, r.Int63n(api.MaxDay)))
	case o == api.OpChoice && len(p.Options) > 0:
		t := r.Intn(len(p.Options))
		return choice(int64(t), r.Int63n(int64(len(p.Options[t].Names))))
	case o == api.OpUsed && len(p.Groups) > 0:
		return of(o, r.Int63n(int64(len(p.Groups))))
	case o >= api.OpLine && o != api.OpUsed && len(p.Lines) > 0:
		return of(o, r.Int63n(int64(len(p.Lines))))
	}
	return count(madeNum(r, api.MaxCount))
}

// madePack: a pack that has a text, if that isn't too long.
func madePack(r *rand.Rand) api.Pack {
	names := []string{"a", "b", "c", "sum", "min", "down", "up", "used", "blank", "age", "x_1", "packs", "isnt", "inn", "z9", "yess", "abcdefghijkl", "not_", "e", "q", "w", "t", "y"}
	r.Shuffle(len(names), func(i, j int) { names[i], names[j] = names[j], names[i] })
	name := func() string {
		s := names[0]
		names = names[1:]
		return s
	}
	p := api.Pack{Name: pick(r, "p", "sum", names[0]), Year: r.Intn(3000)}
	for range r.Intn(3) {
		o := api.Options{Name: name(), Names: []string{"x", "y", "age", "sum", "abcdefghijkl"}[:1+r.Intn(5)]}
		p.Options = append(p.Options, o)
	}
	for range r.Intn(3) {
		t := api.Table{Name: name()}
		for range 1 + r.Intn(3) {
			t.Bands = append(t.Bands, api.Band{From: madeNum(r, api.MaxCents), Rate: madeNum(r, api.MaxRatio)})
		}
		p.Tables = append(p.Tables, t)
	}
	for range r.Intn(3) {
		p.Groups = append(p.Groups, api.Group{Name: name(), Rows: r.Intn(9)})
	}
	for range r.Intn(7) {
		l := api.Line{Name: name(), Input: r.Intn(3) == 0, Must: r.Intn(3) == 0, Type: 1 + r.Intn(4), Options: -1, Group: r.Intn(len(p.Groups)+1) - 1}
		if len(p.Options) > 0 && r.Intn(3) == 0 {
			l.Type, l.Options = api.Choice, r.Intn(len(p.Options))
		}
		p.Lines = append(p.Lines, l)
	}
	for i := range p.Lines {
		for range r.Intn(4) {
			if p.Lines[i].Input {
				break
			}
			c := api.Clause{Body: madeExpr(r, p, 4)}
			if r.Intn(2) == 0 {
				c.Priority, c.Guarded, c.Guard = r.Intn(10), true, madeExpr(r, p, 4)
			}
			p.Lines[i].Clauses = append(p.Lines[i].Clauses, c)
		}
	}
	for range r.Intn(3) {
		p.Checks = append(p.Checks, api.Check{Name: name(), Hard: r.Intn(2) == 0, Group: r.Intn(len(p.Groups)+1) - 1, Text: pick(r, "", "too much", `"\`, "# line a cents"), When: madeExpr(r, p, 4)})
	}
	return p
}

// loud: an expression's text with parentheses around each operand, several at times, and blanks at random.
func loud(r *rand.Rand, p api.Pack, e api.Expr) string {
	arg := func(i int) string { return gap(r) + "(" + loud(r, p, e.Args[i]) + ")" + gap(r) }
	all := func(sign string) string {
		l := make([]string, len(e.Args))
		for i := range l {
			l[i] = arg(i)
		}
		return strings.Join(l, sign)
	}
	call := func(name string, l ...string) string {
		return name + gap(r) + "(" + gap(r) + strings.Join(l, gap(r)+","+gap(r)) + gap(r) + ")"
	}
	modes := []string{"", "down", "up", "inward", "halfup", "halfeven"}
	s := ""
	switch e.Op {
	case api.OpCents:
		s = amount(r, e.Num)
	case api.OpCount:
		s = signed(r, e.Num, fmt.Sprint(max(e.Num, -e.Num)))
	case api.OpFlag:
		s = []string{"no", "yes"}[e.Num]
	case api.OpDay:
		s = civil(e.Num)
	case api.OpChoice:
		s = p.Options[e.Den].Name + gap(r) + "." + gap(r) + p.Options[e.Den].Names[e.Num]
	case api.OpLine:
		s = p.Lines[e.Num].Name
	case api.OpSum, api.OpLeast, api.OpGreatest, api.OpAny, api.OpAll:
		s = call(map[int]string{api.OpSum: "sum", api.OpLeast: "least", api.OpGreatest: "greatest", api.OpAny: "any", api.OpAll: "all"}[e.Op], p.Lines[e.Num].Name)
	case api.OpUsed:
		s = call("used", p.Groups[e.Num].Name)
	case api.OpIsBlank:
		s = call("blank", p.Lines[e.Args[0].Num].Name)
	case api.OpOr, api.OpAnd, api.OpAdd, api.OpSub, api.OpTimes, api.OpEq, api.OpNe, api.OpLt, api.OpLe, api.OpGt, api.OpGe:
		s = all(map[int]string{api.OpOr: "or", api.OpAnd: "and", api.OpAdd: "+", api.OpSub: "-", api.OpTimes: "*", api.OpEq: "=", api.OpNe: "!=", api.OpLt: "<", api.OpLe: "<=", api.OpGt: ">", api.OpGe: ">="}[e.Op])
	case api.OpNot:
		s = "not" + arg(0)
	case api.OpNeg:
		s = "-" + arg(0)
	case api.OpIf:
		s = "if" + arg(0) + "then" + arg(1) + "else" + arg(2)
	case api.OpScale:
		s = call("scale", arg(0), signed(r, e.Num, fmt.Sprint(max(e.Num, -e.Num), gap(r), "/", gap(r), e.Den)), modes[e.Mode])
	case api.OpRound:
		s = call("round", arg(0), amount(r, e.Num), modes[e.Mode])
	case api.OpSplit:
		s = call("split", arg(0), arg(1), modes[e.Mode])
	case api.OpBracket:
		s = call("bracket", p.Tables[e.Num].Name, arg(0))
	default:
		s = call(map[int]string{api.OpMin: "min", api.OpMax: "max", api.OpAbs: "abs", api.OpClamp: "clamp", api.OpElse: "either", api.OpYear: "year", api.OpAge: "age", api.OpMonths: "months", api.OpDays: "days", api.OpAddMonths: "addmonths"}[e.Op], all(","))
	}
	k := r.Intn(2)
	return strings.Repeat("("+gap(r), k) + s + strings.Repeat(gap(r)+")", k)
}

func gap(r *rand.Rand) string { return pick(r, "", "", " ", "\t ") }

func signed(r *rand.Rand, n int64, s string) string {
	if n < 0 || n == 0 && r.Intn(2) == 0 {
		return "-" + gap(r) + s
	}
	return s
}

func amount(r *rand.Rand, n int64) string {
	size := max(n, -n)
	return signed(r, n, fmt.Sprintf("%d.%02d", size/100, size%100))
}

// loudPack: a pack's text with its items mixed, its expressions loud, and blanks, empty lines and remarks at random.
func loudPack(r *rand.Rand, p api.Pack) string {
	end := func() string { return gap(r) + pick(r, "", "", "# line b cents", "#\n\n", "\n \n") + "\n" + gap(r) }
	in := func(group int) string {
		if group < 0 {
			return ""
		}
		return " in " + p.Groups[group].Name
	}
	kinds := make([][]string, 5)
	for _, o := range p.Options {
		kinds[0] = append(kinds[0], "options "+o.Name+gap(r)+":"+gap(r)+strings.Join(o.Names, gap(r)+","+gap(r))+end())
	}
	for _, t := range p.Tables {
		var l []string
		for _, b := range t.Bands {
			size := max(b.Rate, -b.Rate)
			percent := strings.TrimRight(strings.TrimRight(fmt.Sprintf("%d.%04d", size/10000, size%10000), "0"), ".")
			l = append(l, amount(r, b.From)+" "+signed(r, b.Rate, percent+"%"))
		}
		kinds[1] = append(kinds[1], "table "+t.Name+gap(r)+":"+gap(r)+strings.Join(l, gap(r)+","+gap(r))+end())
	}
	for _, g := range p.Groups {
		kinds[2] = append(kinds[2], fmt.Sprint("group ", g.Name, " ", g.Rows)+end())
	}
	for _, l := range p.Lines {
		s := map[bool]string{true: "input ", false: "line "}[l.Input] + l.Name + " "
		if l.Type == api.Choice {
			s += p.Options[l.Options].Name
		} else {
			s += []string{"", "cents", "count", "flag", "day"}[l.Type]
		}
		s += in(l.Group) + map[bool]string{true: " must"}[l.Must] + end()
		for _, c := range l.Clauses {
			if c.Guarded {
				s += fmt.Sprint("at ", c.Priority, " when ", loud(r, p, c.Guard), " ")
			}
			s += "is " + loud(r, p, c.Body) + end()
		}
		kinds[3] = append(kinds[3], s)
	}
	for _, c := range p.Checks {
		quoted := `"` + strings.NewReplacer(`\`, `\\`, `"`, `\"`).Replace(c.Text) + `"`
		kinds[4] = append(kinds[4], "check "+c.Name+map[bool]string{true: " hard"}[c.Hard]+in(c.Group)+gap(r)+quoted+end()+"when "+loud(r, p, c.When)+end())
	}
	s := strings.Repeat(end(), r.Intn(2)) + fmt.Sprint("pack ", p.Name, " ", p.Year) + end()
	for left := len(p.Options) + len(p.Tables) + len(p.Groups) + len(p.Lines) + len(p.Checks); left > 0; left-- {
		k := r.Intn(5)
		for len(kinds[k]) == 0 {
			k = (k + 1) % 5
		}
		s += kinds[k][0]
		kinds[k] = kinds[k][1:]
	}
	return s
}
