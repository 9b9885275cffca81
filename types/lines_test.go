package types_test

import (
	"testing"

	"levy/api"
)

func lineBends() []bend {
	l := []bend{
		{"line 0: name", func(p *api.Pack) { p.Lines[0].Name = "c c" }, spot(5, 0, -1), api.ErrTypeName},
		{"line 0: type", func(p *api.Pack) { p.Lines[0].Type = api.Blank }, spot(5, 0, -1), api.ErrTypeLine},
		{"line 0: group", func(p *api.Pack) { p.Lines[0].Group = -2 }, spot(5, 0, -1), api.ErrTypeGroup},
		{"line 0: an input with a clause", func(p *api.Pack) { p.Lines[0].Clauses = make([]api.Clause, 1) }, spot(5, 0, -1), api.ErrTypeLine},
		{"line 4: options", func(p *api.Pack) { p.Lines[4].Options = 2 }, spot(5, 4, -1), api.ErrTypeLine},
		{"line tax: name twice", func(p *api.Pack) { p.Lines[lineTax].Name = "kid" }, spot(5, lineTax, -1), api.ErrTypeTwice},
		{"line tax: options", func(p *api.Pack) { p.Lines[lineTax].Options = 0 }, spot(5, lineTax, -1), api.ErrTypeLine},
		{"line tax: group", func(p *api.Pack) { p.Lines[lineTax].Group = 2 }, spot(5, lineTax, -1), api.ErrTypeGroup},
		{"line tax: no clauses", func(p *api.Pack) { p.Lines[lineTax].Clauses = nil }, spot(5, lineTax, -1), api.ErrTypeLine},
	}
	tax := func(does func(l []api.Clause)) func(p *api.Pack) {
		return func(p *api.Pack) { does(p.Lines[lineTax].Clauses) }
	}
	return append(l, []bend{
		{"tax 0: a priority", tax(func(l []api.Clause) { l[0].Priority = 3 }), spot(5, lineTax, 0), api.ErrTypeClause},
		{"tax 1: not guarded", tax(func(l []api.Clause) { l[1].Guarded = false }), spot(5, lineTax, 1), api.ErrTypeClause},
		{"tax 1: priority 0", tax(func(l []api.Clause) { l[1].Priority = 0 }), spot(5, lineTax, 1), api.ErrTypeClause},
		{"tax 2: priority twice", tax(func(l []api.Clause) { l[2].Priority = l[1].Priority }), spot(5, lineTax, 2), api.ErrTypeClause},
		{"own 0: guarded", func(p *api.Pack) { p.Lines[lineOwn].Clauses[0].Guarded = true }, spot(5, lineOwn, 0), api.ErrTypeClause},
		{"line pick: type", func(p *api.Pack) { p.Lines[linePick].Type = api.Fault }, spot(5, linePick, -1), api.ErrTypeLine},
		{"line pick: seven clauses", func(p *api.Pack) { p.Lines[linePick].Clauses = make([]api.Clause, 7) }, spot(5, linePick, -1), api.ErrTypeLine},
	}...)
}

func TestP6_6Lines(t *testing.T) {
	bends(t, lineBends())
	everyName(t, func(p *api.Pack, s string) { p.Lines[linePick].Name = s }, spot(5, linePick, -1))
}

func TestP6_6TypesAndOptions(t *testing.T) {
	for _, kind := range []int{-1 << 63, -1, 0, 1, 2, 3, 4, 5, 6, 7, 1 << 62} {
		for _, options := range []int{-1 << 63, -2, -1, 0, 1, 2, 1 << 62} {
			p := sample()
			p.Checks = nil
			p.Lines = []api.Line{input("a", kind, options, -1)}
			good := kind >= 1 && kind <= 4 && options == -1 || kind == 5 && (options == 0 || options == 1)
			if good {
				wellFormed(t, "a type and its options", p)
			} else {
				checks(t, "a type and its options", p, spot(5, 0, -1), api.ErrTypeLine)
			}
		}
	}
}

func TestP6_6Groups(t *testing.T) {
	for _, group := range []int{-1 << 63, -2, -1, 0, 1, 2, 3, 1 << 62} {
		p := sample()
		p.Lines = append(p.Lines, input("more", api.Cents, -1, group))
		q := sample()
		q.Checks = append(q.Checks, api.Check{Name: "more", Group: group, Text: "x", When: flag(1)})
		if group >= -1 && group <= 1 {
			wellFormed(t, "a line's group", p)
			wellFormed(t, "a check's group", q)
		} else {
			checks(t, "a line's group", p, spot(5, 16, -1), api.ErrTypeGroup)
			checks(t, "a check's group", q, spot(6, 2, -1), api.ErrTypeGroup)
		}
	}
}

// withClauses: a pack whose line 16 has these clauses.
func withClauses(input bool, l ...api.Clause) api.Pack {
	p := sample()
	p.Lines = append(p.Lines, api.Line{Name: "more", Input: input, Type: api.Count, Options: -1, Group: -1, Clauses: l})
	return p
}

func TestP6_6HowManyClauses(t *testing.T) {
	l := []api.Clause{{Body: count(1)}, guarded(1), guarded(2), guarded(3), guarded(4), guarded(5), guarded(6), guarded(7)}
	for n := range len(l) + 1 {
		if n >= 1 && n <= 6 {
			wellFormed(t, "clauses", withClauses(false, l[:n]...))
		} else {
			checks(t, "clauses", withClauses(false, l[:n]...), spot(5, 16, -1), api.ErrTypeLine)
		}
		if n == 0 {
			wellFormed(t, "an input", withClauses(true))
		} else {
			checks(t, "an input with clauses", withClauses(true, l[:n]...), spot(5, 16, -1), api.ErrTypeLine)
		}
	}
}

func TestP6_6Defaults(t *testing.T) {
	for _, c := range []api.Clause{
		{Priority: 1}, {Priority: -1}, {Priority: 10}, {Guarded: true}, {Guarded: true, Guard: flag(1)},
		{Guard: api.Expr{Op: 1}}, {Guard: api.Expr{Op: -1}}, {Guard: api.Expr{Num: 1}}, {Guard: api.Expr{Den: 1}}, {Guard: api.Expr{Mode: 1}}, {Guard: api.Expr{Args: make([]api.Expr, 1)}}, {Guard: flag(1)},
	} {
		c.Body = count(1)
		checks(t, "a default", withClauses(false, c, guarded(5)), spot(5, 16, 0), api.ErrTypeClause)
	}
	wellFormed(t, "a default whose guard has an empty list", withClauses(false, api.Clause{Guard: api.Expr{Args: []api.Expr{}}, Body: count(1)}))
}

func TestP6_6Exceptions(t *testing.T) {
	first := api.Clause{Body: count(1)}
	for priority := -3; priority < 13; priority++ {
		for at := 1; at < 3; at++ {
			l := []api.Clause{first, guarded(5), guarded(4)}
			l[at].Priority = priority
			switch {
			case priority < 1 || priority > 9:
				checks(t, "a priority", withClauses(false, l...), spot(5, 16, at), api.ErrTypeClause)
			case l[1].Priority == l[2].Priority:
				checks(t, "a priority", withClauses(false, l...), spot(5, 16, 2), api.ErrTypeClause)
			default:
				wellFormed(t, "a priority", withClauses(false, l...))
			}
		}
	}
	late := []api.Clause{first, guarded(5), guarded(4), guarded(3), guarded(2), guarded(5)}
	checks(t, "a priority of long ago", withClauses(false, late...), spot(5, 16, 5), api.ErrTypeClause)
	open := []api.Clause{first, guarded(5), {Priority: 3, Body: count(1)}}
	checks(t, "an exception without a guard", withClauses(false, open...), spot(5, 16, 2), api.ErrTypeClause)
	checks(t, "two defaults", withClauses(false, first, first), spot(5, 16, 1), api.ErrTypeClause)
	p := sample()
	for i, l := range p.Lines {
		if !l.Input && l.Type != api.Choice {
			p.Lines[i].Clauses[1].Priority = 7
		}
	}
	wellFormed(t, "unlike lines may have one priority", p)
}

func exprBends() []bend {
	tax := func(does func(l []api.Clause)) func(p *api.Pack) {
		return func(p *api.Pack) { does(p.Lines[lineTax].Clauses) }
	}
	return []bend{
		{"tax 0: a body that names no table", tax(func(l []api.Clause) { l[0].Body = op(api.OpAdd, of(api.OpBracket, 2, line(lineC)), count(1)) }), spot(5, lineTax, 0, 1, 0), api.ErrTypeRef},
		{"tax 0: a body's argument of another kind", tax(func(l []api.Clause) { l[0].Body = op(api.OpAdd, cents(1), count(1)) }), spot(5, lineTax, 0, 1, 1), api.ErrTypeKind},
		{"tax 0: a body of another kind", tax(func(l []api.Clause) { l[0].Body = line(lineN) }), spot(5, lineTax, 0, 1), api.ErrTypeKind},
		{"tax 1: a guard's fault", tax(func(l []api.Clause) { l[1].Guard = op(api.OpEq, flag(1), flag(2)) }), spot(5, lineTax, 1, 0, 1), api.ErrTypeOp},
		{"tax 1: a guard that is no flag", tax(func(l []api.Clause) { l[1].Guard = cents(0) }), spot(5, lineTax, 1, 0), api.ErrTypeKind},
		{"tax 1: no operator", tax(func(l []api.Clause) { l[1].Body = api.Expr{} }), spot(5, lineTax, 1, 1), api.ErrTypeOp},
		{"tax 2: many nodes", tax(func(l []api.Clause) { l[2].Body = sums(53) }), spot(5, lineTax, 2, 1), api.ErrTypeSize},
		{"own 0: a line of another group", func(p *api.Pack) { p.Lines[lineOwn].Clauses[0].Body = line(slipF) }, spot(5, lineOwn, 0, 1), api.ErrTypeRef},
		{"pick 0: a choice of another table", func(p *api.Pack) { p.Lines[linePick].Clauses[0].Body = line(lineO) }, spot(5, linePick, 0, 1), api.ErrTypeKind},
		{"check 0: an argument's fault", func(p *api.Pack) { p.Checks[0].When = op(api.OpGt, line(lineC), cents(1<<60)) }, spot(6, 0, -1, 1), api.ErrTypeOp},
		{"check 0: no flag", func(p *api.Pack) { p.Checks[0].When = line(lineC) }, spot(6, 0, -1), api.ErrTypeKind},
		{"check 1: a line of another group", func(p *api.Pack) { p.Checks[1].When.Args[1].Args[0] = line(slipF) }, spot(6, 1, -1, 1, 0), api.ErrTypeRef},
	}
}

func TestP6_8Expressions(t *testing.T) {
	bends(t, exprBends())
}

func TestP6_8KindsOfGuardsBodiesAndChecks(t *testing.T) {
	all := []api.Expr{cents(1), count(1), flag(1), day(1), choice(0, 1), choice(1, 1)}
	lines := []int{lineC, lineN, lineF, lineD, lineO, lineS}
	for i, e := range all {
		for j, n := range lines {
			p := sample()
			l := p.Lines[n]
			l.Name, l.Input = "more", false
			l.Clauses = []api.Clause{{Body: e}}
			p.Lines = append(p.Lines, l)
			if i == j {
				wellFormed(t, "a body", p)
			} else {
				checks(t, "a body", p, spot(5, 16, 0, 1), api.ErrTypeKind)
			}
		}
		guard := withClauses(false, api.Clause{Body: count(1)}, api.Clause{Priority: 1, Guarded: true, Guard: e, Body: count(2)})
		check := sample()
		check.Checks[1].When = e
		if i == 2 {
			wellFormed(t, "a guard", guard)
			wellFormed(t, "a check", check)
		} else {
			checks(t, "a guard", guard, spot(5, 16, 1, 0), api.ErrTypeKind)
			checks(t, "a check", check, spot(6, 1, -1), api.ErrTypeKind)
		}
	}
}

func TestP6_8TheGroupOfTheLineOrCheck(t *testing.T) {
	for group := -1; group < 2; group++ {
		for n, of := range map[int64]int{lineF: -1, kidF: 0, slipF: 1} {
			p := sample()
			p.Lines = append(p.Lines, api.Line{Name: "more", Type: api.Flag, Options: -1, Group: group, Clauses: []api.Clause{{Body: line(n)}}})
			q := sample()
			q.Checks = append(q.Checks, api.Check{Name: "more", Group: group, Text: "x", When: line(n)})
			if of == -1 || of == group {
				wellFormed(t, "a line reads another", p)
				wellFormed(t, "a check reads a line", q)
			} else {
				checks(t, "a line reads another", p, spot(5, 16, 0, 1), api.ErrTypeRef)
				checks(t, "a check reads a line", q, spot(6, 2, -1), api.ErrTypeRef)
			}
		}
	}
}

// counts: the flag that a sum of so many nodes, less three, isn't 0.
func counts(n int) api.Expr { return op(api.OpNe, sums(n-2), cents(0)) }

func TestP6_8NodesOfALine(t *testing.T) {
	for n := 1; n < 80; n++ {
		if nodes(sums(n)) != n || n > 3 && nodes(counts(n)) != n {
			t.Fatalf("%d nodes: %d, %d", n, nodes(sums(n)), nodes(counts(n)))
		}
	}
	with := func(body, guard, other int) api.Pack {
		p := sample()
		p.Lines[lineTax].Clauses = []api.Clause{{Body: sums(body)}, {Priority: 1, Guarded: true, Guard: counts(guard), Body: sums(other)}, {Priority: 2, Guarded: true, Guard: flag(1), Body: cents(1)}}
		return p
	}
	wellFormed(t, "60 nodes", with(30, 20, 8))
	wellFormed(t, "60 nodes", with(1, 56, 1))
	checks(t, "a last body is node 61", with(30, 20, 9), spot(5, lineTax, 2, 1), api.ErrTypeSize)
	checks(t, "a last guard is node 61", with(30, 20, 10), spot(5, lineTax, 2, 0), api.ErrTypeSize)
	checks(t, "a body goes beyond 60", with(30, 20, 11), spot(5, lineTax, 1, 1), api.ErrTypeSize)
	checks(t, "a guard goes beyond 60", with(30, 31, 1), spot(5, lineTax, 1, 0), api.ErrTypeSize)
	p := with(30, 31, 1)
	p.Lines[lineTax].Clauses[1].Guard = sums(31)
	checks(t, "a kind is told ahead of the nodes", p, spot(5, lineTax, 1, 0), api.ErrTypeKind)
	p.Lines[lineTax].Clauses[1].Guard = counts(31)
	p.Lines[lineTax].Clauses[1].Guard.Args[0].Args[0] = flag(1)
	checks(t, "an argument's kind is told ahead of the nodes", p, spot(5, lineTax, 1, 0, 0, 0), api.ErrTypeKind)
}

func TestP6_8NodesApart(t *testing.T) {
	p := sample()
	for i := range 3 {
		p.Lines = append(p.Lines, api.Line{Name: named("more", i), Type: api.Cents, Options: -1, Group: -1, Clauses: []api.Clause{{Body: sums(60)}}})
		p.Checks = append(p.Checks, api.Check{Name: named("less", i), Group: -1, Text: "x", When: counts(60)})
	}
	wellFormed(t, "each line and check has nodes of its own", p)
	q := p
	q.Lines = append([]api.Line{}, p.Lines...)
	q.Lines[17].Clauses = []api.Clause{{Body: sums(61)}}
	if s := lastPath(sums(61)); s[0] != 5 {
		t.Fatalf("the last node: %v", s)
	}
	checks(t, "61 nodes of a line", q, spot(5, 17, 0, append([]int{1}, lastPath(sums(61))...)...), api.ErrTypeSize)
	p.Checks[3].When = counts(61)
	checks(t, "61 nodes of a check", p, spot(6, 3, -1, 1), api.ErrTypeSize)
}

// lastPath: the path of the node that is met last.
func lastPath(e api.Expr) []int {
	var path []int
	for len(e.Args) > 0 {
		path = append(path, len(e.Args)-1)
		e = e.Args[len(e.Args)-1]
	}
	return path
}
