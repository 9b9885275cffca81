package desk_test

import (
	"math"
	"math/rand"
	"strings"

	"levy/api"
	"levy/types"
)

// Packs by chance that types.Check takes, without cycles, and commands over them.

func op(o int, args ...api.Expr) api.Expr          { return api.Expr{Op: o, Args: args} }
func of(o int, n int64, args ...api.Expr) api.Expr { return api.Expr{Op: o, Num: n, Args: args} }
func line(n int) api.Expr                          { return of(api.OpLine, int64(n)) }

// numbered: names that are unlike for unlike numbers below 26.
func numbered(lead string, n int) string { return lead + string(rune('a'+n)) }

// kind: what an expression is to be, choices once a table.
type kind struct{ kind, options int }

var allKinds = []kind{{api.Cents, -1}, {api.Count, -1}, {api.Flag, -1}, {api.Day, -1}, {api.Choice, 0}, {api.Choice, 1}}

// madePack: a pack of at most so many lines.
func madePack(r *rand.Rand, lines int) api.Pack {
	p := api.Pack{
		Name: "made", Year: 2024,
		Options: []api.Options{{Name: "status", Names: []string{"single", "joint"}}, {Name: "size", Names: []string{"small", "mid", "big"}}},
		Tables:  []api.Table{{Name: "rates", Bands: []api.Band{{Rate: 100000}, {From: 1000, Rate: 250000}, {From: 100000, Rate: 420001}}}},
	}
	for i := range r.Intn(4) {
		p.Groups = append(p.Groups, api.Group{Name: numbered("g", i), Rows: 1 + r.Intn(pick(r, 2, 3, api.MaxRows))})
	}
	for i := range 2 + r.Intn(lines) {
		k := pick(r, allKinds...)
		if r.Intn(4) == 0 {
			k = allKinds[0]
		}
		p.Lines = append(p.Lines, api.Line{Name: numbered("l", i), Input: r.Intn(2) == 0, Must: r.Intn(3) == 0, Type: k.kind, Options: k.options, Group: r.Intn(len(p.Groups)+1) - 1})
	}
	for i := range r.Intn(4) {
		p.Checks = append(p.Checks, api.Check{Name: numbered("c", i), Hard: r.Intn(2) == 0, Group: r.Intn(len(p.Groups)+1) - 1, Text: pick(r, "so", `a "b"`, `\`)})
	}
	for types.Cells(p) > api.MaxCells {
		p.Lines = p.Lines[:len(p.Lines)-1]
	}
	fill(r, p)
	return p
}

// fill writes the clauses of a pack's computed lines, and its checks. A line names just such as are ahead of it in some order: so there is no cycle.
func fill(r *rand.Rand, p api.Pack) {
	turn := r.Perm(len(p.Lines))
	for i, l := range p.Lines {
		if l.Input {
			continue
		}
		m := &maker{Rand: r, pack: p, group: l.Group, left: api.MaxNodes, ahead: func(n int) bool { return turn[n] < turn[i] }}
		c := []api.Clause{{Body: m.expr(kind{l.Type, l.Options})}}
		turns := r.Perm(9)
		for j := range r.Intn(3) {
			c = append(c, api.Clause{Priority: turns[j] + 1, Guarded: true, Guard: m.expr(allKinds[2]), Body: m.expr(kind{l.Type, l.Options})})
		}
		p.Lines[i].Clauses = c
	}
	for i, c := range p.Checks {
		m := &maker{Rand: r, pack: p, group: c.Group, left: api.MaxNodes, ahead: func(int) bool { return true }}
		p.Checks[i].When = m.expr(allKinds[2])
	}
}

// maker: it makes the expressions of a line or check, of so many nodes as are left.
type maker struct {
	*rand.Rand
	pack        api.Pack
	group, left int
	ahead       func(line int) bool
}

// expr: an expression of a kind, a leaf where the nodes run short: five expressions at most share them.
func (m *maker) expr(k kind) api.Expr {
	e := m.deepExpr(k, 1+m.Intn(3))
	if nodes(e) > m.left-4 {
		e = m.leaf(k)
	}
	m.left -= nodes(e)
	return e
}

func nodes(e api.Expr) int {
	n := 1
	for _, a := range e.Args {
		n += nodes(a)
	}
	return n
}

func (m *maker) leaf(k kind) api.Expr {
	l := m.leaves(k)
	if len(l) == 0 || m.Intn(8) == 0 {
		return literal(m.Rand, k)
	}
	return pick(m.Rand, l...)
}

// leaves: the expressions of a kind that name one thing of the pack, and nothing else.
func (m *maker) leaves(k kind) []api.Expr {
	var l []api.Expr
	for i, x := range m.pack.Lines {
		if x.Type != k.kind || x.Options != k.options || !m.ahead(i) {
			continue
		}
		if x.Group == -1 || x.Group == m.group {
			l = append(l, line(i))
		}
		if x.Group >= 0 {
			for _, o := range aggregates(k) {
				l = append(l, of(o, int64(i)))
			}
		}
	}
	for i := range m.pack.Groups {
		if k.kind == api.Count {
			l = append(l, of(api.OpUsed, int64(i)))
		}
	}
	return l
}

// aggregates: the operators over a column of a kind.
func aggregates(k kind) []int {
	switch k.kind {
	case api.Cents, api.Count:
		return []int{api.OpSum, api.OpLeast, api.OpGreatest}
	case api.Flag:
		return []int{api.OpAny, api.OpAll}
	case api.Day:
		return []int{api.OpLeast, api.OpGreatest}
	}
	return nil
}

// worth: a value of a kind, mostly one of few.
func worth(r *rand.Rand, k kind) api.Value {
	switch k.kind {
	case api.Cents:
		return cent(pick(r, 0, 1, 1, -1, 250, 1000, 123456789, api.MaxCents, -api.MaxCents, r.Int63n(5000)))
	case api.Count:
		return num(pick(r, 0, 1, 1, 2, -1, 17, api.MaxCount, -api.MaxCount, r.Int63n(50)))
	case api.Flag:
		return val(api.Flag, int64(r.Intn(2)))
	case api.Day:
		return date(pick(r, 0, 58, 36583, api.MaxDay, r.Int63n(api.MaxDay)))
	}
	return option(int64(r.Intn(2 + k.options)))
}

// literal: an expression of a kind that names nothing.
func literal(r *rand.Rand, k kind) api.Expr {
	x := worth(r, k)
	switch k.kind {
	case api.Cents:
		return of(api.OpCents, x.Num)
	case api.Count:
		return of(api.OpCount, x.Num)
	case api.Flag:
		return of(api.OpFlag, x.Num)
	case api.Day:
		return of(api.OpDay, x.Num)
	}
	return api.Expr{Op: api.OpChoice, Num: x.Num, Den: int64(k.options)}
}

func (m *maker) deepExpr(k kind, deep int) api.Expr {
	if deep <= 1 || m.Intn(4) == 0 {
		return m.leaf(k)
	}
	sub := func(k kind) api.Expr { return m.deepExpr(k, deep-1) }
	switch {
	case m.Intn(4) == 0:
		return op(api.OpIf, sub(allKinds[2]), sub(k), sub(k))
	case m.Intn(4) == 0 || k.kind == api.Choice:
		return op(api.OpElse, sub(k), sub(k))
	case k.kind == api.Flag:
		return m.truth(sub)
	case k.kind == api.Day:
		return op(api.OpAddMonths, sub(k), sub(allKinds[1]))
	case m.Intn(2) == 0:
		return op(pick(m.Rand, api.OpAdd, api.OpMin, api.OpMax), sub(k), sub(k))
	case k.kind == api.Count:
		return op(pick(m.Rand, api.OpAge, api.OpMonths, api.OpDays), sub(allKinds[3]), sub(allKinds[3]))
	case m.Intn(2) == 0:
		return api.Expr{Op: api.OpSplit, Mode: 1 + m.Intn(5), Args: []api.Expr{sub(k), sub(allKinds[1])}}
	}
	return of(api.OpBracket, 0, sub(k))
}

func (m *maker) truth(sub func(kind) api.Expr) api.Expr {
	flags, any, order := allKinds[2], pick(m.Rand, allKinds...), pick(m.Rand, allKinds[0], allKinds[1], allKinds[3])
	switch m.Intn(5) {
	case 0:
		return op(pick(m.Rand, api.OpEq, api.OpNe), sub(any), sub(any))
	case 1:
		return op(pick(m.Rand, api.OpLt, api.OpLe, api.OpGt, api.OpGe), sub(order), sub(order))
	case 2:
		return op(pick(m.Rand, api.OpAnd, api.OpOr), sub(flags), sub(flags))
	case 3:
		return op(api.OpNot, sub(flags))
	}
	for _, n := range m.Perm(len(m.pack.Lines)) {
		if g := m.pack.Lines[n].Group; (g == -1 || g == m.group) && m.ahead(n) {
			return op(api.OpIsBlank, line(n))
		}
	}
	return of(api.OpFlag, 1)
}

// odd: numbers that may stand anywhere.
func odd(r *rand.Rand) int {
	return pick(r, math.MinInt, math.MinInt32, -2, -1, 0, 0, 1, 1, 2, 3, 5, 8, 9, 42, 65536, 1<<32, math.MaxInt32, math.MaxInt)
}

func oddValue(r *rand.Rand) api.Value {
	return pick(r, blank, val(0, 1), yes, no, val(api.Flag, 2), cent(5), cent(api.MaxCents+1), num(1), option(1), option(7), date(-1), needed, val(odd(r), int64(odd(r))))
}

// director: it makes commands by chance; pages that were printed it keeps, to hand them in again.
type director struct {
	*rand.Rand
	pack  api.Pack
	pages [][]string
	rigs  bool // it sets faults of the disk, and lets the machine fall
	deep  bool // it takes little back, so that histories fill
}

// branch: a name of few, so that they meet; now and then none.
func (d *director) branch() string {
	if d.Intn(12) == 0 {
		return pick(d.Rand, "", "A", "a_b", "ninebytes", "9", "no")
	}
	return pick(d.Rand, "main", "a", "b", "c", "a", "b", "d", "e9", "f")
}

// place: a line and a row, mostly such as there are.
func (d *director) place(which func(api.Line) bool) (line, row int) {
	if d.Intn(12) == 0 {
		return odd(d.Rand), odd(d.Rand)
	}
	for range 20 {
		line = d.Intn(len(d.pack.Lines))
		if which(d.pack.Lines[line]) {
			break
		}
	}
	if g := d.pack.Lines[line].Group; g >= 0 {
		row = d.Intn(d.pack.Groups[g].Rows)
	}
	if d.Intn(20) == 0 {
		row = odd(d.Rand)
	}
	return line, row
}

func anyLine(api.Line) bool      { return true }
func inputLine(l api.Line) bool  { return l.Input }
func centsLine(l api.Line) bool  { return l.Type == api.Cents }
func centsInput(l api.Line) bool { return l.Input && l.Type == api.Cents }
func choosable(l api.Line) bool {
	return l.Input && l.Group < 0 && (l.Type == api.Flag || l.Type == api.Choice)
}
func computedLine(l api.Line) bool { return !l.Input }

// changing: a command that is to change the return.
func (d *director) changing() api.Cmd {
	c := api.Cmd{Kind: pick(d.Rand, api.CmdSet, api.CmdSet, api.CmdSet, api.CmdSet, api.CmdSet, api.CmdSet, api.CmdClear, api.CmdAdd, api.CmdAdd, api.CmdDrop, api.CmdMerge, api.CmdMerge, api.CmdImport)}
	if d.Intn(2) == 0 && (!d.deep || d.Intn(8) == 0) {
		c.Kind = pick(d.Rand, api.CmdUndo, api.CmdUndo, api.CmdUndo, api.CmdRedo, api.CmdRedo, api.CmdForget, api.CmdFork, api.CmdFork, api.CmdSwitch, api.CmdSwitch, api.CmdDelete)
	}
	switch c.Kind {
	case api.CmdSet, api.CmdClear:
		c.Line, c.Row = d.place(inputLine)
		c.Val = oddValue(d.Rand)
		if c.Line >= 0 && c.Line < len(d.pack.Lines) && d.Intn(10) > 0 {
			c.Val = worth(d.Rand, kind{d.pack.Lines[c.Line].Type, d.pack.Lines[c.Line].Options})
		}
	case api.CmdAdd, api.CmdDrop:
		c.Line, c.Row = d.Intn(max(1, len(d.pack.Groups))), d.Intn(4)
		if d.Intn(12) == 0 {
			c.Line, c.Row = odd(d.Rand), odd(d.Rand)
		}
	case api.CmdForget:
		c.N = pick(d.Rand, 0, 1, 2, 33, odd(d.Rand))
	case api.CmdImport:
		if len(d.pages) > 0 {
			c.Pages = d.spoilt(pick(d.Rand, d.pages...))
		}
	default:
		c.Name = d.branch()
	}
	return c
}

// spoilt: pages as they were, or with something wrong.
func (d *director) spoilt(pages []string) []string {
	switch d.Intn(4) {
	case 0:
		return pages[1:]
	case 1:
		at := d.Intn(len(pages[0]))
		return append([]string{pages[0][:at] + pick(d.Rand, "a", "", "9", "-") + pages[0][min(at+1, len(pages[0])):]}, pages[1:]...)
	}
	return pages
}

// asking: a question.
func (d *director) asking() api.Cmd {
	c := api.Cmd{Kind: pick(d.Rand, api.CmdQuery, api.CmdQuery, api.CmdQuery, api.CmdAll, api.CmdDiff, api.CmdExplain, api.CmdExplain, api.CmdAudit, api.CmdAdvise, api.CmdAdvise, api.CmdCurve, api.CmdCurve, api.CmdSheet, api.CmdNames)}
	switch c.Kind {
	case api.CmdQuery:
		c.Line, c.Row = d.place(anyLine)
	case api.CmdExplain:
		c.Line, c.Row = d.place(computedLine)
	case api.CmdDiff:
		c.Name = d.branch()
	case api.CmdAdvise:
		c.Line, c.Row = d.place(centsLine)
		c.N = pick(d.Rand, 0, 1, odd(d.Rand))
		for range d.Intn(4) {
			line, _ := d.place(choosable)
			c.List = append(c.List, line)
		}
	case api.CmdCurve:
		c.Line, c.Row = d.place(centsInput)
		line, row := d.place(centsLine)
		c.List = []int{line, row, pick(d.Rand, 1, 2, 5, 64, 65, odd(d.Rand))}
		if d.Intn(12) == 0 {
			c.List = c.List[:d.Intn(3)]
		}
		c.Val = val(odd(d.Rand), pick(d.Rand, 0, 0, 100, -500, api.MaxCents, -api.MaxCents, int64(odd(d.Rand))))
		c.N = pick(d.Rand, 1, 1, 50, 100, 100000, odd(d.Rand))
		c.Name = pick(d.Rand, "raw", "raw", "rate", "slope", "rates", "")
	}
	return c
}

// any: any command.
func (d *director) any() api.Cmd {
	n := d.Intn(100)
	switch {
	case n == 0:
		return api.Cmd{Kind: pick(d.Rand, 0, 26, -1, odd(d.Rand))}
	case d.rigs && n < 3:
		return counted(api.CmdArm, pick(d.Rand, 0, 1, d.Intn(40), d.Intn(200), d.Intn(2000), -1, odd(d.Rand)))
	case d.rigs && n < 5:
		return failing(pick(d.Rand, 0, 1, d.Intn(10), -1, odd(d.Rand)), pick(d.Rand, 0, 1, 1, 2, 3, odd(d.Rand)))
	case d.rigs && n < 6:
		return cmd(api.CmdCrash)
	case n < 8 || d.rigs && n < 14:
		return reopening(pick(d.Rand, nil, []int{d.Intn(40)}, []int{999}, []int{d.Intn(60), odd(d.Rand)})...)
	case n < 75:
		return d.changing()
	}
	return d.asking()
}

// lineText: a command as a line of a script; false, if no line says it.
func (d *director) lineText(c api.Cmd) (string, bool) {
	w := &writer{pack: d.pack, ok: true}
	s := strings.Join(w.words(c), " ")
	return s, w.ok
}
