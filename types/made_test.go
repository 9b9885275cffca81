package types_test

import (
	"math"
	"math/rand"

	"levy/api"
)

// Expressions and packs by chance: such as Type and Check take, and such as were spoilt in places.

// kind: what an expression is to be, choices once a table.
type kind struct{ kind, options int }

// The kinds of expressions over sample.
var kinds = []kind{{api.Cents, -1}, {api.Count, -1}, {api.Flag, -1}, {api.Day, -1}, {api.Choice, 0}, {api.Choice, 1}}

func pick[T any](r *rand.Rand, l ...T) T { return l[r.Intn(len(l))] }

// literal: an expression of a kind that names no line.
func literal(r *rand.Rand, k kind) api.Expr {
	switch k.kind {
	case api.Cents:
		return cents(pick[int64](r, 0, 5, -7, api.MaxCents, -api.MaxCents))
	case api.Count:
		return count(pick[int64](r, 0, 5, -7, api.MaxCount, -api.MaxCount))
	case api.Flag:
		return flag(pick[int64](r, 0, 1))
	case api.Day:
		return day(pick[int64](r, 0, 40000, api.MaxDay))
	}
	return choice(int64(k.options), pick[int64](r, 0, 1))
}

// leaves: the expressions of a kind that name one thing of a pack, and nothing else.
func leaves(p api.Pack, group int, k kind) []api.Expr {
	var l []api.Expr
	for i, x := range p.Lines {
		if x.Type != k.kind || x.Type == api.Choice && x.Options != k.options {
			continue
		}
		n := int64(i)
		if x.Group == -1 || x.Group == group {
			l = append(l, line(n))
		}
		switch {
		case x.Group == -1:
		case k.kind == api.Flag:
			l = append(l, of(api.OpAny, n), of(api.OpAll, n))
		case k.kind == api.Cents, k.kind == api.Count:
			l = append(l, of(api.OpSum, n), of(api.OpLeast, n), of(api.OpGreatest, n))
		case k.kind == api.Day:
			l = append(l, of(api.OpLeast, n), of(api.OpGreatest, n))
		}
	}
	for i := range p.Groups {
		if k.kind == api.Count {
			l = append(l, of(api.OpUsed, int64(i)))
		}
	}
	return l
}

// maker: it makes expressions over a pack, as in a group.
type maker struct {
	*rand.Rand
	group, tables int
	leaves        map[kind][]api.Expr
}

func makerOver(r *rand.Rand, p api.Pack, group int) maker {
	m := maker{r, group, len(p.Tables), map[kind][]api.Expr{}}
	for _, k := range kinds {
		m.leaves[k] = leaves(p, group, k)
	}
	return m
}

// makers: one a group of a pack, that of no group first.
func makers(r *rand.Rand, p api.Pack) []maker {
	l := []maker{makerOver(r, p, -1)}
	for i := range p.Groups {
		l = append(l, makerOver(r, p, i))
	}
	return l
}

func (m maker) leaf(k kind) api.Expr {
	l := m.leaves[k]
	if len(l) == 0 || m.Intn(3) == 0 {
		return literal(m.Rand, k)
	}
	return pick(m.Rand, l...)
}

// expr: an expression of a kind, at most so deep.
func (m maker) expr(k kind, deep int) api.Expr {
	if deep <= 1 || m.Intn(3) == 0 {
		return m.leaf(k)
	}
	sub := func(k kind) api.Expr { return m.expr(k, deep-1) }
	switch m.Intn(4) {
	case 0:
		return op(api.OpIf, sub(kinds[2]), sub(k), sub(k))
	case 1:
		return op(api.OpElse, sub(k), sub(k))
	}
	switch k.kind {
	case api.Cents, api.Count:
		return m.amount(k, sub)
	case api.Flag:
		return m.truth(sub)
	case api.Day:
		return op(api.OpAddMonths, sub(k), sub(kinds[1]))
	}
	return m.leaf(k)
}

func (m maker) amount(k kind, sub func(kind) api.Expr) api.Expr {
	mode := 1 + m.Intn(5)
	l := []func() api.Expr{
		func() api.Expr {
			return op(pick(m.Rand, api.OpAdd, api.OpMin, api.OpMax), m.some(k, 2+m.Intn(5), sub)...)
		},
		func() api.Expr { return op(api.OpSub, sub(k), sub(k)) },
		func() api.Expr { return op(pick(m.Rand, api.OpNeg, api.OpAbs), sub(k)) },
		func() api.Expr { return op(api.OpClamp, sub(k), sub(k), sub(k)) },
	}
	if k.kind == api.Count {
		return pick(m.Rand, append(l,
			func() api.Expr { return op(api.OpYear, sub(kinds[3])) },
			func() api.Expr {
				return op(pick(m.Rand, api.OpAge, api.OpMonths, api.OpDays), sub(kinds[3]), sub(kinds[3]))
			},
		)...)()
	}
	return pick(m.Rand, append(l,
		func() api.Expr { return scale(sub(k), pick[int64](m.Rand, 0, -api.MaxRatio, api.MaxRatio), 1, mode) },
		func() api.Expr { return op(api.OpTimes, sub(k), sub(kinds[1])) },
		func() api.Expr {
			return api.Expr{Op: api.OpSplit, Mode: mode, Args: []api.Expr{sub(k), sub(kinds[1])}}
		},
		func() api.Expr {
			return api.Expr{Op: api.OpRound, Num: pick[int64](m.Rand, 1, 100, api.MaxCents), Mode: mode, Args: []api.Expr{sub(k)}}
		},
		func() api.Expr { return of(api.OpBracket, int64(m.Intn(m.tables)), sub(k)) },
	)...)()
}

func (m maker) truth(sub func(kind) api.Expr) api.Expr {
	flags, any, order := kinds[2], pick(m.Rand, kinds...), pick(m.Rand, kinds[0], kinds[1], kinds[3])
	switch m.Intn(5) {
	case 0:
		return op(pick(m.Rand, api.OpEq, api.OpNe), sub(any), sub(any))
	case 1:
		return op(pick(m.Rand, api.OpLt, api.OpLe, api.OpGt, api.OpGe), sub(order), sub(order))
	case 2:
		return op(pick(m.Rand, api.OpAnd, api.OpOr), m.some(flags, 2+m.Intn(5), sub)...)
	case 3:
		return op(api.OpNot, sub(flags))
	}
	return op(api.OpIsBlank, line(pick[int64](m.Rand, lineC, lineN, lineF, lineD, lineO, lineS)))
}

func (m maker) some(k kind, n int, sub func(kind) api.Expr) []api.Expr {
	var l []api.Expr
	for range n {
		l = append(l, sub(k))
	}
	return l
}

// anyNumber: numbers at the edges of what may be, and some beyond.
func anyNumber(r *rand.Rand) int64 {
	if r.Intn(2) == 0 {
		return int64(r.Intn(20) - 2)
	}
	edge := pick[int64](r, math.MinInt64, -api.MaxCents, -api.MaxCount, 0, 1, api.MaxDay, api.MaxRatio, api.MaxCents, math.MaxInt64)
	return edge + pick[int64](r, -1, 0, 1) // wraps round at the ends
}

// nodeAt: the node of that number, as they are met.
func nodeAt(e *api.Expr, n *int) *api.Expr {
	if *n == 0 {
		return e
	}
	*n--
	for i := range e.Args {
		if x := nodeAt(&e.Args[i], n); x != nil {
			return x
		}
	}
	return nil
}

// spoil changes one node of an expression, which then may or may not have a fault.
func (m maker) spoil(e *api.Expr) {
	n := m.Intn(nodes(*e))
	x := nodeAt(e, &n)
	switch m.Intn(8) {
	case 0:
		x.Op = m.Intn(46) - 2
	case 1:
		x.Num = anyNumber(m.Rand)
	case 2:
		x.Den = anyNumber(m.Rand)
	case 3:
		x.Mode = m.Intn(9) - 1
	case 4:
		x.Args = append(x.Args[:len(x.Args):len(x.Args)], m.leaf(pick(m.Rand, kinds...)))
	case 5:
		x.Args = x.Args[:len(x.Args)-min(1, len(x.Args))]
	case 6:
		*x = m.expr(pick(m.Rand, kinds...), 2)
	case 7:
		x.Num = int64(m.Intn(20))
	}
}

// madePack: a pack with other bodies than sample's, which passes unless it has too many nodes.
func madePack(r *rand.Rand) api.Pack {
	p := sample()
	if r.Intn(3) == 0 {
		p = full()
	}
	l := makers(r, p)
	for i, x := range p.Lines {
		m := l[x.Group+1]
		for j, c := range x.Clauses {
			if c.Guarded {
				p.Lines[i].Clauses[j].Guard = m.expr(kinds[2], 1+r.Intn(3))
			}
			p.Lines[i].Clauses[j].Body = m.expr(kind{x.Type, x.Options}, 1+r.Intn(3))
		}
	}
	for i, c := range p.Checks {
		p.Checks[i].When = l[c.Group+1].expr(kinds[2], 1+r.Intn(4))
	}
	return p
}

// bendSome changes one thing of a pack, which then may or may not have a fault.
func bendSome(r *rand.Rand, p *api.Pack) {
	small := r.Intn(13) - 2
	name := pick(r, "tax", "kid", "rates", "status", "c", "", "Q", "fresh", "a_long_name_0")
	opts, table, group := &p.Options[r.Intn(len(p.Options))], &p.Tables[r.Intn(len(p.Tables))], &p.Groups[r.Intn(len(p.Groups))]
	line, check := &p.Lines[r.Intn(len(p.Lines))], &p.Checks[r.Intn(len(p.Checks))]
	clause := &api.Clause{Body: api.Expr{Op: 1}}
	if len(line.Clauses) > 0 {
		clause = &line.Clauses[r.Intn(len(line.Clauses))]
	}
	m := makerOver(r, *p, line.Group)
	all := []func(){
		func() { p.Name = name }, func() { p.Year = pick(r, 1899, 1900, 2199, 2200, 0) },
		func() { opts.Name = name }, func() { opts.Names[r.Intn(len(opts.Names))] = name }, func() { opts.Names = append(opts.Names, name, "x", "y") },
		func() { table.Name = name }, func() { table.Bands[r.Intn(len(table.Bands))].From = anyNumber(r) }, func() { table.Bands[r.Intn(len(table.Bands))].Rate = anyNumber(r) },
		func() { table.Bands = append(table.Bands, api.Band{From: 9999999}) },
		func() { group.Name = name }, func() { group.Rows = small },
		func() { line.Name = name }, func() { line.Type = small }, func() { line.Options = small }, func() { line.Group = small }, func() { line.Input = !line.Input },
		func() {
			line.Clauses = append(line.Clauses, api.Clause{Priority: small, Guarded: true, Guard: flag(1), Body: m.expr(kind{line.Type, line.Options}, 2)})
		},
		func() { clause.Priority = small }, func() { clause.Guarded = !clause.Guarded },
		func() { m.spoil(&clause.Guard) }, func() { m.spoil(&clause.Body) }, func() { clause.Body = m.expr(pick(r, kinds...), 2) }, func() { clause.Guard = m.expr(pick(r, kinds...), 2) },
		func() { check.Name = name }, func() { check.Group = small }, func() { check.Text = pick(r, "", "\x1f", "ok") }, func() { m.spoil(&check.When) }, func() { check.When = m.expr(pick(r, kinds...), 2) },
		func() { p.Options = p.Options[:1] }, func() { p.Groups = p.Groups[:1] }, func() { p.Tables = p.Tables[:1] },
		func() { p.Lines = p.Lines[:1+r.Intn(len(p.Lines))] },
	}
	pick(r, all...)()
}
