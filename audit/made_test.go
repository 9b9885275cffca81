package audit_test

import (
	"math"
	"math/rand"
	"testing"

	"levy/api"
	"levy/graph"
	"levy/types"
)

// Packs by chance that types.Check takes, with and without cycles, and what may be set over them.

// kind: what an expression is to be, choices once a table.
type kind struct{ kind, options int }

var kinds = []kind{{api.Cents, -1}, {api.Count, -1}, {api.Flag, -1}, {api.Day, -1}, {api.Choice, 0}, {api.Choice, 1}}

func pick[T any](r *rand.Rand, l ...T) T { return l[r.Intn(len(l))] }

// shape: what packs are to be like: how deep their expressions are at most; how often a line may name any line, of 100 times, and not just one ahead of it in some order; how often an expression names none.
type shape struct{ deep, stray, bare int }

// madePack: a pack of at most so many lines, which passes Check.
func madePack(r *rand.Rand, lines int, s shape) api.Pack {
	p := api.Pack{
		Name: "made", Year: 2024,
		Options: []api.Options{{Name: "status", Names: []string{"single", "joint"}}, {Name: "size", Names: []string{"small", "big"}}},
		Tables:  []api.Table{{Name: "flat", Bands: []api.Band{{Rate: 100000}}}, {Name: "rates", Bands: []api.Band{{Rate: 100000}, {From: 1000, Rate: 250000}, {From: 100000, Rate: 420001}}}},
	}
	for i := range r.Intn(api.MaxGroups + 1) {
		p.Groups = append(p.Groups, api.Group{Name: named("g", i), Rows: 1 + r.Intn(api.MaxRows)})
	}
	for i := range 1 + r.Intn(lines) {
		k := pick(r, kinds...)
		p.Lines = append(p.Lines, api.Line{Name: named("l", i), Input: r.Intn(4) == 0, Must: r.Intn(3) == 0, Type: k.kind, Options: k.options, Group: r.Intn(len(p.Groups)+1) - 1})
	}
	for i := range r.Intn(api.MaxChecks + 1) {
		p.Checks = append(p.Checks, api.Check{Name: named("c", i), Hard: r.Intn(2) == 0, Group: r.Intn(len(p.Groups)+1) - 1, Text: named("so ", i)})
	}
	for types.Cells(p) > api.MaxCells {
		p.Lines, p.Checks = p.Lines[:max(1, len(p.Lines)-1)], p.Checks[:max(0, len(p.Checks)-1)]
	}
	fill(r, p, s)
	return p
}

// fill writes the clauses of a pack's computed lines, and its checks.
func fill(r *rand.Rand, p api.Pack, s shape) {
	turn := r.Perm(len(p.Lines))
	for i, l := range p.Lines {
		if l.Input {
			continue
		}
		m := &maker{Rand: r, pack: p, shape: s, group: l.Group, left: api.MaxNodes, ahead: func(n int) bool { return turn[n] < turn[i] }}
		c := []api.Clause{{Body: m.expr(kind{l.Type, l.Options})}}
		turns := r.Perm(9)
		for j := range r.Intn(api.MaxClauses) {
			c = append(c, api.Clause{Priority: turns[j] + 1, Guarded: true, Guard: m.expr(kinds[2]), Body: m.expr(kind{l.Type, l.Options})})
		}
		p.Lines[i].Clauses = c
	}
	for i, c := range p.Checks {
		m := &maker{Rand: r, pack: p, shape: s, group: c.Group, left: api.MaxNodes, ahead: func(int) bool { return true }}
		p.Checks[i].When = m.expr(kinds[2])
	}
}

// maker: it makes the expressions of a line or check, of so many nodes as are left.
type maker struct {
	*rand.Rand
	shape
	pack        api.Pack
	group, left int
	ahead       func(line int) bool
}

// expr: an expression of a kind, a leaf where the nodes run short: eleven expressions at most share them.
func (m *maker) expr(k kind) api.Expr {
	e := m.deepExpr(k, 1+m.Intn(m.deep))
	if nodes(e) > m.left-10 {
		e = m.leaf(k)
	}
	m.left -= nodes(e)
	return e
}

func nodes(e api.Expr) int {
	n := 1
	for _, a := range e.Args {
		n += nodes(a)
	}
	return n
}

func (m *maker) may(line int) bool { return m.ahead(line) || m.Intn(100) < m.stray }

func (m *maker) leaf(k kind) api.Expr {
	l := m.leaves(k)
	if len(l) == 0 || m.Intn(100) < m.bare {
		return literal(m.Rand, k)
	}
	return pick(m.Rand, l...)
}

// leaves: the expressions of a kind that name one thing of the pack, and nothing else.
func (m *maker) leaves(k kind) []api.Expr {
	var l []api.Expr
	for i, x := range m.pack.Lines {
		if x.Type != k.kind || x.Options != k.options || !m.may(i) {
			continue
		}
		if x.Group == -1 || x.Group == m.group {
			l = append(l, line(i))
		}
		if x.Group == -1 {
			continue
		}
		for _, o := range aggregates(k) {
			l = append(l, of(o, int64(i)))
		}
	}
	for i := range m.pack.Groups {
		if k.kind == api.Count {
			l = append(l, of(api.OpUsed, int64(i)))
		}
	}
	return l
}

// aggregates: the operators over a column of a kind.
func aggregates(k kind) []int {
	switch k.kind {
	case api.Cents, api.Count:
		return []int{api.OpSum, api.OpLeast, api.OpGreatest}
	case api.Flag:
		return []int{api.OpAny, api.OpAll}
	case api.Day:
		return []int{api.OpLeast, api.OpGreatest}
	}
	return nil
}

// worth: a value of a kind, at its bounds or small.
func worth(r *rand.Rand, k kind) api.Value {
	switch k.kind {
	case api.Cents:
		return cent(pick(r, 0, 1, -1, 250, 1000, 123456789, api.MaxCents, -api.MaxCents, r.Int63n(5000)))
	case api.Count:
		return num(pick(r, 0, 0, 1, 2, -1, 17, 600, api.MaxCount, -api.MaxCount, r.Int63n(50)))
	case api.Flag:
		return val(api.Flag, int64(r.Intn(2)))
	case api.Day:
		return date(pick(r, 0, 58, 36583, 45000, api.MaxDay, r.Int63n(api.MaxDay)))
	}
	return option(int64(r.Intn(2)))
}

// literal: an expression of a kind that names nothing.
func literal(r *rand.Rand, k kind) api.Expr {
	x := worth(r, k)
	switch k.kind {
	case api.Cents:
		return cents(x.Num)
	case api.Count:
		return count(x.Num)
	case api.Flag:
		return flag(x.Num)
	case api.Day:
		return day(x.Num)
	}
	return choice(int64(k.options), x.Num)
}

func (m *maker) deepExpr(k kind, deep int) api.Expr {
	if deep <= 1 || m.Intn(4) == 0 {
		return m.leaf(k)
	}
	sub := func(k kind) api.Expr { return m.deepExpr(k, deep-1) }
	switch {
	case m.Intn(4) == 0:
		return op(api.OpIf, sub(kinds[2]), sub(k), sub(k))
	case m.Intn(4) == 0 || k.kind == api.Choice:
		return op(api.OpElse, sub(k), sub(k))
	case k.kind == api.Flag:
		return m.truth(sub)
	case k.kind == api.Day:
		return op(api.OpAddMonths, sub(k), sub(kinds[1]))
	}
	return m.amount(k, sub)
}

func (m *maker) amount(k kind, sub func(kind) api.Expr) api.Expr {
	mode, days := 1+m.Intn(5), kinds[3]
	switch n := m.Intn(8); {
	case n == 0:
		return op(pick(m.Rand, api.OpAdd, api.OpMin, api.OpMax), sub(k), sub(k), sub(k))
	case n == 1:
		return op(api.OpSub, sub(k), sub(k))
	case n == 2:
		return op(pick(m.Rand, api.OpNeg, api.OpAbs), sub(k))
	case n == 3:
		return op(api.OpClamp, sub(k), sub(k), sub(k))
	case k.kind == api.Count && n < 6:
		return op(api.OpYear, sub(days))
	case k.kind == api.Count:
		return op(pick(m.Rand, api.OpAge, api.OpMonths, api.OpDays), sub(days), sub(days))
	case n == 4:
		return api.Expr{Op: api.OpScale, Num: pick[int64](m.Rand, 3, -1, 0, 1, api.MaxRatio), Den: pick[int64](m.Rand, 4, 7, 1, api.MaxRatio), Mode: mode, Args: []api.Expr{sub(k)}}
	case n == 5:
		return pick(m.Rand, op(api.OpTimes, sub(k), sub(kinds[1])), api.Expr{Op: api.OpSplit, Mode: mode, Args: []api.Expr{sub(k), sub(kinds[1])}})
	case n == 6:
		return api.Expr{Op: api.OpRound, Num: pick[int64](m.Rand, 5, 100, api.MaxCents), Mode: mode, Args: []api.Expr{sub(k)}}
	}
	return of(api.OpBracket, int64(m.Intn(2)), sub(k))
}

func (m *maker) truth(sub func(kind) api.Expr) api.Expr {
	flags, any, order := kinds[2], pick(m.Rand, kinds...), pick(m.Rand, kinds[0], kinds[1], kinds[3])
	switch m.Intn(5) {
	case 0:
		return op(pick(m.Rand, api.OpEq, api.OpNe), sub(any), sub(any))
	case 1:
		return op(pick(m.Rand, api.OpLt, api.OpLe, api.OpGt, api.OpGe), sub(order), sub(order))
	case 2:
		return op(pick(m.Rand, api.OpAnd, api.OpOr), sub(flags), sub(flags), sub(flags))
	case 3:
		return op(api.OpNot, sub(flags))
	}
	for _, n := range m.Perm(len(m.pack.Lines)) {
		if g := m.pack.Lines[n].Group; (g == -1 || g == m.group) && m.may(n) {
			return op(api.OpIsBlank, line(n))
		}
	}
	return flag(1)
}

// odd: any value, those that aren't valid too.
func odd(r *rand.Rand) api.Value {
	switch r.Intn(4) {
	case 0:
		return blank
	case 1:
		return fault(1 + int64(r.Intn(5)))
	case 2:
		return worth(r, pick(r, kinds...))
	}
	return val(strange(r), int64(strange(r)))
}

// strange: numbers that may stand anywhere.
func strange(r *rand.Rand) int {
	return pick(r, math.MinInt, math.MinInt32, -2, -1, 0, 0, 1, 1, 2, 3, 5, 6, 8, 9, 42, math.MaxInt32, math.MaxInt)
}

// setting: a value that an input cell may be set to, now and then Blank.
func setting(r *rand.Rand, p api.Pack, place api.Place) api.Value {
	switch {
	case place.Kind == api.PlaceFlag:
		return pick(r, yes, yes, yes, yes, no, blank)
	case r.Intn(6) == 0:
		return blank
	}
	return worth(r, kind{p.Lines[place.Index].Type, p.Lines[place.Index].Options})
}

var shapes = []shape{{3, 0, 10}, {4, 0, 20}, {2, 0, 5}, {5, 0, 30}}

// eachMade calls do with packs without cycles, and their models.
func eachMade(t *testing.T, seed int64, many, lines int, do func(r *rand.Rand, p api.Pack, m *model)) {
	t.Helper()
	r := rand.New(rand.NewSource(seed))
	for i := range many {
		p := madePack(r, lines, shapes[i%len(shapes)])
		if do(r, p, modelOf(t, p)); t.Failed() {
			t.Fatalf("the pack: %+v", p)
		}
	}
}

// someInputs: a list that Load takes: rows that aren't used may have values too.
func someInputs(r *rand.Rand, m *model) []api.Read {
	var l []api.Read
	often := pick(r, 20, 60, 90, 100)
	for _, cell := range m.cells {
		place, _ := m.graph.Place(cell)
		v := setting(r, m.pack, place)
		if r.Intn(100) < often && v != blank && !(m.isFlag(cell) && v == no) {
			l = append(l, at(uint32(cell), v))
		}
	}
	return l
}

func madeGraph(t *testing.T, p api.Pack) *graph.Graph {
	t.Helper()
	g, _, e := graph.New(p)
	if g == nil || e != api.OK {
		t.Fatalf("graph.New(%+v): error %d", p, e)
	}
	return g
}
