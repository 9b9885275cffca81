package eval_test

import (
	"slices"

	"levy/api"
	"levy/days"
	"levy/graph"
	"levy/money"
)

// model: the chapter's words, read off an expression as it stands.
type model struct {
	pack  api.Pack
	graph *graph.Graph
}

// asking: a cell that is being reckoned.
type asking struct {
	model
	row   int
	read  func(uint32) api.Value
	reads []api.Read
}

func (m model) isInput(cell int) bool {
	place, ok := m.graph.Place(cell)
	return !ok || place.Kind == api.PlaceFlag || place.Kind == api.PlaceLine && m.pack.Lines[place.Index].Input
}

// node: P9.6 and P9.8.
func (m model) node(cell uint32, read func(uint32) api.Value) api.Node {
	n := api.Node{Cell: cell, Clause: -1}
	if m.isInput(int(cell)) {
		return n
	}
	place, _ := m.graph.Place(int(cell))
	a := &asking{model: m, row: place.Row, read: read}
	if place.Kind == api.PlaceCheck {
		c := m.pack.Checks[place.Index]
		if n.Val = a.unless(c.Group); n.Val == yes {
			n.Val = a.expr(c.When)
		}
	} else {
		l := m.pack.Lines[place.Index]
		if n.Val = a.unless(l.Group); n.Val == yes {
			n.Val, n.Clause, n.Guards = a.clauses(l.Clauses)
		}
	}
	n.Reads = a.reads
	return n
}

// unless: yes, if the cell's row is used or it has none; else what the cell is worth.
func (a *asking) unless(group int) api.Value {
	if group == -1 {
		return yes
	}
	t := isTrue(a.flag(group, a.row))
	if t == no {
		return blank
	}
	return t
}

func (a *asking) clauses(l []api.Clause) (api.Value, int, []api.Value) {
	var guards []api.Value
	for priority := 9; priority > 0; priority-- {
		i := slices.IndexFunc(l, func(c api.Clause) bool { return c.Priority == priority })
		if i < 0 {
			continue
		}
		g := a.expr(l[i].Guard)
		guards = append(guards, g)
		switch t := isTrue(g); t {
		case yes:
			return a.expr(l[i].Body), i, guards
		case no:
		default:
			return t, -1, guards
		}
	}
	return a.expr(l[0].Body), 0, guards
}

func isTrue(x api.Value) api.Value {
	switch {
	case x == yes, x == no, x.Kind == api.Fault:
		return x
	case x == blank:
		return needed
	}
	return wrong
}

func (a *asking) cell(cell int, ok bool) api.Value {
	if !ok {
		panic("no such cell")
	}
	for _, r := range a.reads {
		if r.Cell == uint32(cell) {
			return r.Seen
		}
	}
	x := a.read(uint32(cell))
	if !money.Valid(x) {
		x = wrong
	}
	a.reads = append(a.reads, at(uint32(cell), x))
	return x
}

func (a *asking) flag(group, row int) api.Value { return a.cell(a.graph.Flag(group, row)) }

func (a *asking) line(n, row int) api.Value {
	if a.pack.Lines[n].Group == -1 {
		row = 0
	}
	return a.cell(a.graph.Cell(n, row))
}

// expr: P9.7.
func (a *asking) expr(e api.Expr) api.Value {
	switch e.Op {
	case api.OpCents, api.OpCount, api.OpFlag, api.OpDay, api.OpChoice:
		return val(map[int]int{api.OpCents: api.Cents, api.OpCount: api.Count, api.OpFlag: api.Flag, api.OpDay: api.Day, api.OpChoice: api.Choice}[e.Op], e.Num)
	case api.OpLine:
		return a.line(int(e.Num), a.row)
	case api.OpSum, api.OpLeast, api.OpGreatest, api.OpAny, api.OpAll:
		return a.aggregate(e.Op, int(e.Num))
	case api.OpUsed:
		n := num(0)
		for row := range a.pack.Groups[e.Num].Rows {
			t := isTrue(a.flag(int(e.Num), row))
			if t.Kind == api.Fault {
				return t
			}
			n.Num += t.Num
		}
		return n
	case api.OpAnd, api.OpOr, api.OpNot, api.OpIf, api.OpElse, api.OpIsBlank:
		return a.lazy(e)
	}
	var l []api.Value
	for _, x := range e.Args {
		switch y := a.expr(x); y.Kind {
		case api.Fault:
			return y
		case api.Blank:
			return needed
		default:
			l = append(l, y)
		}
	}
	return a.strict(e, l)
}

func (a *asking) lazy(e api.Expr) api.Value {
	switch first := a.expr(e.Args[0]); e.Op {
	case api.OpNot:
		switch isTrue(first) {
		case yes:
			return no
		case no:
			return yes
		}
		return isTrue(first)
	case api.OpIf:
		switch isTrue(first) {
		case yes:
			return a.expr(e.Args[1])
		case no:
			return a.expr(e.Args[2])
		}
		return isTrue(first)
	case api.OpElse:
		if first == blank {
			return a.expr(e.Args[1])
		}
		return first
	case api.OpIsBlank:
		switch {
		case first == blank:
			return yes
		case first.Kind == api.Fault:
			return first
		}
		return no
	default: // OpAnd, OpOr
		goesOn := map[int]api.Value{api.OpAnd: yes, api.OpOr: no}[e.Op]
		for i := 1; isTrue(first) == goesOn && i < len(e.Args); i++ {
			first = a.expr(e.Args[i])
		}
		return isTrue(first)
	}
}

func (a *asking) aggregate(o, n int) api.Value {
	var l []api.Value
	group := a.pack.Lines[n].Group
	for row := range a.pack.Groups[group].Rows {
		t := isTrue(a.flag(group, row))
		if t.Kind == api.Fault {
			return t
		}
		if t == no {
			continue
		}
		x := a.line(n, row)
		if x.Kind == api.Fault {
			return x
		}
		if x == blank {
			continue
		}
		if (o == api.OpAny || o == api.OpAll) && isTrue(x).Kind == api.Fault {
			return isTrue(x)
		}
		l = append(l, x)
	}
	switch {
	case o == api.OpSum:
		return money.Sum(a.pack.Lines[n].Type, slices.Values(l))
	case o == api.OpAny:
		return map[bool]api.Value{true: yes, false: no}[slices.Contains(l, yes)]
	case o == api.OpAll:
		return map[bool]api.Value{true: no, false: yes}[slices.Contains(l, no)]
	case len(l) == 0:
		return blank
	}
	return fold(map[int]func(a, b api.Value) api.Value{api.OpLeast: money.Min, api.OpGreatest: money.Max}[o], l)
}

func fold(f func(a, b api.Value) api.Value, l []api.Value) api.Value {
	x := l[0]
	for _, y := range l[1:] {
		x = f(x, y)
	}
	return x
}

func (a *asking) strict(e api.Expr, l []api.Value) api.Value {
	switch e.Op {
	case api.OpAdd:
		return fold(money.Add, l)
	case api.OpMin:
		return fold(money.Min, l)
	case api.OpMax:
		return fold(money.Max, l)
	case api.OpSub:
		return money.Sub(l[0], l[1])
	case api.OpNeg:
		return money.Neg(l[0])
	case api.OpAbs:
		return money.Abs(l[0])
	case api.OpClamp:
		return money.Clamp(l[0], l[1], l[2])
	case api.OpScale:
		return money.Scale(l[0], e.Num, e.Den, e.Mode)
	case api.OpTimes:
		return money.Times(l[0], l[1])
	case api.OpSplit:
		return money.Split(l[0], l[1], e.Mode)
	case api.OpRound:
		return money.Round(l[0], e.Num, e.Mode)
	case api.OpEq, api.OpNe, api.OpLt, api.OpLe, api.OpGt, api.OpGe:
		return money.Compare(e.Op, l[0], l[1])
	case api.OpBracket:
		return money.Bracket(a.pack.Tables[e.Num].Bands, l[0])
	}
	return calendar(e.Op, l)
}

func calendar(o int, l []api.Value) api.Value {
	second := api.Value{Kind: api.Day}
	if o == api.OpAddMonths {
		second.Kind = api.Count
	}
	if len(l) > 1 {
		second = api.Value{Kind: second.Kind, Num: l[1].Num}
	}
	if l[0].Kind != api.Day || len(l) > 1 && l[1] != second {
		return wrong
	}
	var n int
	var e api.Errno
	switch first, second := int(l[0].Num), int(second.Num); o {
	case api.OpYear:
		var d api.Date
		d, e = days.Date(first)
		n = d.Year
	case api.OpAge:
		n, e = days.Age(first, second)
	case api.OpMonths:
		n, e = days.Between(first, second)
	case api.OpDays:
		n = second - first
	case api.OpAddMonths:
		n, e = days.Add(first, second)
	}
	if e != api.OK {
		return outside
	}
	if o == api.OpAddMonths {
		return date(int64(n))
	}
	return num(int64(n))
}

// holds: what all cells hold, over what the input cells hold: P9.4, cell by cell as they are asked for.
func (m model) holds(in map[int]api.Value) []api.Value {
	l := make([]api.Value, m.graph.Cells())
	known := map[int]bool{}
	var ask func(cell int) api.Value
	ask = func(cell int) api.Value {
		if known[cell] {
			return l[cell]
		}
		known[cell] = true
		place, _ := m.graph.Place(cell)
		switch x, there := in[cell]; {
		case there:
			l[cell] = x
		case place.Kind == api.PlaceFlag:
			l[cell] = no
		case !m.isInput(cell):
			l[cell] = m.node(uint32(cell), func(c uint32) api.Value { return ask(int(c)) }).Val
		}
		return l[cell]
	}
	for cell := range l {
		ask(cell)
	}
	return l
}
