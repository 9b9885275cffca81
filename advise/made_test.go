package advise_test

import (
	"math/rand"
	"slices"
	"testing"

	"levy/api"
	"levy/types"
)

// Packs by chance that eval.New takes, with many inputs of flags and choices; inputs that fit them; cells to choose.

// kind: what an expression is to be, choices once a table.
type kind struct{ kind, options int }

var kinds = []kind{{api.Cents, -1}, {api.Count, -1}, {api.Flag, -1}, {api.Day, -1}, {api.Choice, 0}, {api.Choice, 1}, {api.Choice, 2}}

func pick[T any](r *rand.Rand, l ...T) T { return l[r.Intn(len(l))] }

// madePack: a pack of at most so many lines. A line names just such as are ahead of it: so there is no cycle.
func madePack(r *rand.Rand, lines int) api.Pack {
	p := api.Pack{
		Name: "made", Year: 2024,
		Options: []api.Options{optionsOf("status", 2), optionsOf("size", 1+r.Intn(api.MaxOptions)), optionsOf("colour", 3)},
		Tables:  []api.Table{{Name: "rates", Bands: []api.Band{{Rate: 100000}, {From: 1000, Rate: 250000}, {From: 100000, Rate: 420001}}}},
	}
	for i := range r.Intn(api.MaxGroups + 1) {
		p.Groups = append(p.Groups, api.Group{Name: named("g", i), Rows: 1 + r.Intn(api.MaxRows)})
	}
	for i := range 2 + r.Intn(lines) {
		k := pick(r, kinds...)
		if r.Intn(4) == 0 {
			k = kinds[0]
		}
		l := api.Line{Name: named("l", i), Type: k.kind, Options: k.options, Group: r.Intn(len(p.Groups)+2) - 2}
		l.Group = max(l.Group, -1)
		l.Input = r.Intn(4) == 0 || i < lines/3 || r.Intn(2) == 0 && (l.Type == api.Flag || l.Type == api.Choice)
		p.Lines = append(p.Lines, l)
	}
	for i := range r.Intn(3) {
		p.Checks = append(p.Checks, api.Check{Name: named("c", i), Group: -1, When: flag(0), Text: "so"})
	}
	for types.Cells(p) > api.MaxCells {
		p.Lines = p.Lines[:len(p.Lines)-1]
	}
	fill(r, p)
	return p
}

// fill writes the clauses of a pack's computed lines.
func fill(r *rand.Rand, p api.Pack) {
	for i, l := range p.Lines {
		if l.Input {
			continue
		}
		m := &maker{Rand: r, pack: p, lines: i, group: l.Group, left: api.MaxNodes}
		c := []api.Clause{{Body: m.expr(kind{l.Type, l.Options})}}
		turns := r.Perm(9)
		for j := range r.Intn(3) {
			c = append(c, api.Clause{Priority: turns[j] + 1, Guarded: true, Guard: m.expr(kinds[2]), Body: m.expr(kind{l.Type, l.Options})})
		}
		p.Lines[i].Clauses = c
	}
}

// maker: it makes the expressions of a line, of the lines ahead of it, and of so many nodes as are left.
type maker struct {
	*rand.Rand
	pack               api.Pack
	lines, group, left int
}

// expr: an expression of a kind, a leaf where the nodes run short: five expressions at most share them.
func (m *maker) expr(k kind) api.Expr {
	e := m.deepExpr(k, 2+m.Intn(3))
	if nodes(e) > m.left-4 {
		e = m.leaf(k)
	}
	m.left -= nodes(e)
	return e
}

func nodes(e api.Expr) int {
	n := 1
	for _, a := range e.Args {
		n += nodes(a)
	}
	return n
}

func (m *maker) leaf(k kind) api.Expr {
	l := m.leaves(k)
	if len(l) == 0 || m.Intn(8) == 0 {
		return literal(m.Rand, m.pack, k)
	}
	return pick(m.Rand, l...)
}

// leaves: the expressions of a kind that name one thing of the pack, and nothing else.
func (m *maker) leaves(k kind) []api.Expr {
	var l []api.Expr
	for i, x := range m.pack.Lines[:m.lines] {
		if x.Type != k.kind || x.Options != k.options {
			continue
		}
		if x.Group == -1 || x.Group == m.group {
			l = append(l, line(i), line(i))
		}
		if x.Group >= 0 {
			for _, o := range aggregates(k) {
				l = append(l, of(o, int64(i)))
			}
		}
	}
	for i := range m.pack.Groups {
		if k.kind == api.Count {
			l = append(l, of(api.OpUsed, int64(i)))
		}
	}
	return l
}

// aggregates: the operators over a column of a kind.
func aggregates(k kind) []int {
	switch k.kind {
	case api.Cents, api.Count:
		return []int{api.OpSum, api.OpLeast, api.OpGreatest}
	case api.Flag:
		return []int{api.OpAny, api.OpAll}
	case api.Day:
		return []int{api.OpLeast, api.OpGreatest}
	}
	return nil
}

// held: a value of a kind, small more often than at its bounds.
func held(r *rand.Rand, p api.Pack, k kind) api.Value {
	switch k.kind {
	case api.Cents:
		return cent(pick(r, 0, 1, -1, 250, 1000, 5000, -700, api.MaxCents, r.Int63n(5000)))
	case api.Count:
		return num(pick(r, 0, 1, 2, -1, 17, r.Int63n(50)))
	case api.Flag:
		return val(api.Flag, int64(r.Intn(2)))
	case api.Day:
		return date(pick(r, 0, 36583, 45000, api.MaxDay, r.Int63n(api.MaxDay)))
	}
	return option(int64(r.Intn(len(p.Options[k.options].Names))))
}

// literal: an expression of a kind that names nothing.
func literal(r *rand.Rand, p api.Pack, k kind) api.Expr {
	x := held(r, p, k)
	switch k.kind {
	case api.Cents:
		return cents(x.Num)
	case api.Count:
		return count(x.Num)
	case api.Flag:
		return flag(x.Num)
	case api.Day:
		return day(x.Num)
	}
	return choice(int64(k.options), x.Num)
}

func (m *maker) deepExpr(k kind, deep int) api.Expr {
	if deep <= 1 || m.Intn(5) == 0 {
		return m.leaf(k)
	}
	sub := func(k kind) api.Expr { return m.deepExpr(k, deep-1) }
	switch {
	case m.Intn(3) == 0:
		return either(sub(kinds[2]), sub(k), sub(k))
	case m.Intn(4) == 0 || k.kind == api.Choice:
		return op(api.OpElse, sub(k), sub(k))
	case k.kind == api.Flag:
		return m.truth(sub)
	case k.kind == api.Day:
		return op(api.OpAddMonths, sub(k), sub(kinds[1]))
	}
	return m.amount(k, sub)
}

func (m *maker) amount(k kind, sub func(kind) api.Expr) api.Expr {
	switch n := m.Intn(6); {
	case n == 0:
		return op(pick(m.Rand, api.OpAdd, api.OpMin, api.OpMax), sub(k), sub(k), sub(k))
	case n == 1:
		return op(api.OpSub, sub(k), sub(k))
	case n == 2:
		return op(pick(m.Rand, api.OpNeg, api.OpAbs), sub(k))
	case k.kind == api.Count:
		return op(pick(m.Rand, api.OpAge, api.OpMonths, api.OpDays), sub(kinds[3]), sub(kinds[3]))
	case n == 3:
		return op(api.OpTimes, sub(k), sub(kinds[1]))
	case n == 4:
		return api.Expr{Op: api.OpSplit, Mode: 1 + m.Intn(5), Args: []api.Expr{sub(k), sub(kinds[1])}}
	}
	return of(api.OpBracket, 0, sub(k))
}

func (m *maker) truth(sub func(kind) api.Expr) api.Expr {
	flags, any, order := kinds[2], pick(m.Rand, kinds...), pick(m.Rand, kinds[0], kinds[1], kinds[3])
	switch m.Intn(5) {
	case 0:
		return op(pick(m.Rand, api.OpEq, api.OpNe), sub(any), sub(any))
	case 1:
		return op(pick(m.Rand, api.OpLt, api.OpLe, api.OpGt, api.OpGe), sub(order), sub(order))
	case 2:
		return op(pick(m.Rand, api.OpAnd, api.OpOr), sub(flags), sub(flags))
	case 3:
		return op(api.OpNot, sub(flags))
	}
	for _, n := range m.Perm(m.lines) {
		if g := m.pack.Lines[n].Group; g == -1 || g == m.group {
			return op(api.OpIsBlank, line(n))
		}
	}
	return flag(1)
}

// eachMade calls do with packs, and their models.
func eachMade(t *testing.T, seed int64, many, lines int, do func(r *rand.Rand, p api.Pack, m *model)) {
	t.Helper()
	r := rand.New(rand.NewSource(seed))
	for range many {
		p := madePack(r, lines)
		if do(r, p, modelOf(t, p)); t.Failed() {
			t.Fatalf("the pack: %+v", p)
		}
	}
}

// fitting: inputs that fit: rows used or not, and values in no group and in used rows.
func (m *model) fitting(r *rand.Rand) []api.Entry {
	var l []api.Entry
	often := pick(r, 20, 60, 90, 100)
	for g, x := range m.pack.Groups {
		for row := range x.Rows {
			if cell, _ := m.graph.Flag(g, row); r.Intn(100) < often {
				l = append(l, at(uint32(cell), yes))
			}
		}
	}
	in := inputs(l...)
	for i, x := range m.pack.Lines {
		for row := range api.MaxRows {
			cell, ok := m.graph.Cell(i, row)
			if ok && x.Input && (x.Group < 0 || m.used(in, x.Group, row)) && r.Intn(100) < often {
				l = append(l, at(uint32(cell), held(r, m.pack, kind{x.Type, x.Options})))
			}
		}
	}
	return l
}

// anyCells: all cells, in any order.
func (m *model) anyCells(r *rand.Rand) []int { return r.Perm(m.graph.Cells()) }

// under: the cells that a target hangs on, in any order, and behind them all others.
func (m *model) under(r *rand.Rand, target uint32) []int {
	l := slices.Collect(m.graph.Need(int(target)))
	r.Shuffle(len(l), func(i, j int) { l[i], l[j] = l[j], l[i] })
	for _, c := range m.anyCells(r) {
		if !slices.Contains(l, c) {
			l = append(l, c)
		}
	}
	return l
}

// chosen: the first of some cells that may be chosen, of at most so many ways together.
func (m *model) chosen(r *rand.Rand, l []api.Entry, among []int, bound int) []uint32 {
	in, ways := inputs(l...), 1
	var cells []uint32
	most := pick(r, 0, 1, 2, 3, 4, 5, 5, 20)
	for _, c := range among {
		n := m.options(in, uint32(c))
		if n > 0 && ways*n <= bound && len(cells) < most {
			ways *= n
			cells = append(cells, uint32(c))
		}
	}
	return cells
}

// targets: the cells of lines of cents.
func (m *model) targets() []uint32 {
	var l []uint32
	for cell := range uint32(m.graph.Cells()) {
		if place, _ := m.graph.Place(int(cell)); place.Kind == api.PlaceLine && m.kindOf(cell) == api.Cents {
			l = append(l, cell)
		}
	}
	return l
}

// computedTargets: those of computed lines, the last ones first, since they hang on most; at most so many.
func (m *model) computedTargets(many int) []uint32 {
	l := slices.DeleteFunc(m.targets(), func(cell uint32) bool {
		place, _ := m.graph.Place(int(cell))
		return m.pack.Lines[place.Index].Input
	})
	slices.Reverse(l)
	return l[:min(many, len(l))]
}
