package types_test

import (
	"iter"
	"slices"

	"levy/api"
)

// The model: the chapter's words gone through once more, operator by operator, without a table.

type told struct {
	kind, options int
	path          []int
	errno         api.Errno
}

func modelType(p api.Pack, group int, e api.Expr) told {
	met := 0
	return modelNode(p, group, e, nil, &met)
}

func modelNode(p api.Pack, group int, e api.Expr, path []int, met *int) told {
	fault := func(errno api.Errno, further ...int) told {
		return told{0, -1, slices.Concat(path, further), errno}
	}
	*met++
	if len(path)+1 > 8 || *met > 60 {
		return fault(api.ErrTypeSize)
	}
	if !modelOp(e) {
		return fault(api.ErrTypeOp)
	}
	if !modelRef(p, group, e) {
		return fault(api.ErrTypeRef)
	}
	var args []told
	for i, a := range e.Args {
		x := modelNode(p, group, a, slices.Concat(path, []int{i}), met)
		if x.errno != api.OK {
			return x
		}
		args = append(args, x)
	}
	for i := range args {
		if modelBlames(e.Op, args, i) {
			return fault(api.ErrTypeKind, i)
		}
	}
	kind, options := modelKind(p, e, args)
	if kind == 0 {
		return fault(api.ErrTypeKind)
	}
	return told{kind: kind, options: options}
}

func between(n, from, to int64) bool { return n >= from && n <= to }

func modelOp(e api.Expr) bool {
	n, num, den, mode := len(e.Args), e.Num == 0, e.Den == 0, e.Mode == 0
	rounds := e.Mode == api.Down || e.Mode == api.Up || e.Mode == api.Inward || e.Mode == api.HalfUp || e.Mode == api.HalfEven
	switch e.Op {
	case api.OpCents:
		return between(e.Num, -9999999999999, 9999999999999) && den && mode && n == 0
	case api.OpCount:
		return between(e.Num, -1000000000, 1000000000) && den && mode && n == 0
	case api.OpFlag:
		return between(e.Num, 0, 1) && den && mode && n == 0
	case api.OpDay:
		return between(e.Num, 0, 109572) && den && mode && n == 0
	case api.OpChoice:
		return mode && n == 0
	case api.OpLine, api.OpSum, api.OpLeast, api.OpGreatest, api.OpAny, api.OpAll, api.OpUsed:
		return den && mode && n == 0
	case api.OpAdd, api.OpMin, api.OpMax, api.OpAnd, api.OpOr:
		return num && den && mode && n >= 2 && n <= 6
	case api.OpSub, api.OpTimes, api.OpEq, api.OpNe, api.OpLt, api.OpLe, api.OpGt, api.OpGe, api.OpElse, api.OpAge, api.OpMonths, api.OpDays, api.OpAddMonths:
		return num && den && mode && n == 2
	case api.OpNeg, api.OpAbs, api.OpNot, api.OpYear:
		return num && den && mode && n == 1
	case api.OpClamp, api.OpIf:
		return num && den && mode && n == 3
	case api.OpScale:
		return between(e.Num, -1000000000, 1000000000) && between(e.Den, 1, 1000000000) && rounds && n == 1
	case api.OpSplit:
		return num && den && rounds && n == 2
	case api.OpRound:
		return between(e.Num, 1, 9999999999999) && den && rounds && n == 1
	case api.OpBracket:
		return den && mode && n == 1
	case api.OpIsBlank:
		return num && den && mode && n == 1 && e.Args[0].Op == api.OpLine
	}
	return false
}

func modelRef(p api.Pack, group int, e api.Expr) bool {
	switch e.Op {
	case api.OpChoice:
		for i, o := range p.Options {
			if int64(i) == e.Den {
				return between(e.Num, 0, int64(len(o.Names))-1)
			}
		}
		return false
	case api.OpUsed:
		return between(e.Num, 0, int64(len(p.Groups))-1)
	case api.OpBracket:
		return between(e.Num, 0, int64(len(p.Tables))-1)
	case api.OpLine, api.OpSum, api.OpLeast, api.OpGreatest, api.OpAny, api.OpAll:
		for i, l := range p.Lines {
			if int64(i) != e.Num {
				continue
			}
			if l.Type < api.Cents || l.Type > api.Choice {
				return false
			}
			if e.Op == api.OpLine {
				return l.Group == -1 || l.Group == group
			}
			return l.Group != -1
		}
		return false
	}
	return true
}

// modelBlames: argument i isn't of a kind that it must be of, whatever those behind it are.
func modelBlames(o int, args []told, i int) bool {
	is := func(kinds ...int) bool { return slices.Contains(kinds, args[i].kind) }
	alike := func(j int) bool {
		return args[i].kind == args[j].kind && (args[i].kind != api.Choice || args[i].options == args[j].options)
	}
	switch o {
	case api.OpAdd, api.OpMin, api.OpMax, api.OpSub, api.OpNeg, api.OpAbs, api.OpClamp:
		return !is(api.Cents, api.Count) || !alike(0)
	case api.OpScale, api.OpRound, api.OpBracket:
		return !is(api.Cents)
	case api.OpTimes, api.OpSplit:
		return i == 0 && !is(api.Cents) || i == 1 && !is(api.Count)
	case api.OpEq, api.OpNe, api.OpElse:
		return i == 1 && !alike(0)
	case api.OpLt, api.OpLe, api.OpGt, api.OpGe:
		return !is(api.Cents, api.Count, api.Day) || !alike(0)
	case api.OpAnd, api.OpOr, api.OpNot:
		return !is(api.Flag)
	case api.OpIf:
		return i == 0 && !is(api.Flag) || i == 2 && !alike(1)
	case api.OpYear, api.OpAge, api.OpMonths, api.OpDays:
		return !is(api.Day)
	case api.OpAddMonths:
		return i == 0 && !is(api.Day) || i == 1 && !is(api.Count)
	}
	return false
}

// modelKind: kind 0 where the node itself is to blame.
func modelKind(p api.Pack, e api.Expr, args []told) (kind, options int) {
	switch e.Op {
	case api.OpCents, api.OpScale, api.OpTimes, api.OpSplit, api.OpRound, api.OpBracket:
		return api.Cents, -1
	case api.OpCount, api.OpUsed, api.OpYear, api.OpAge, api.OpMonths, api.OpDays:
		return api.Count, -1
	case api.OpFlag, api.OpEq, api.OpNe, api.OpLt, api.OpLe, api.OpGt, api.OpGe, api.OpAnd, api.OpOr, api.OpNot, api.OpIsBlank:
		return api.Flag, -1
	case api.OpDay, api.OpAddMonths:
		return api.Day, -1
	case api.OpChoice:
		return api.Choice, int(e.Den)
	case api.OpAdd, api.OpMin, api.OpMax, api.OpSub, api.OpNeg, api.OpAbs, api.OpClamp, api.OpElse:
		return args[0].kind, args[0].options
	case api.OpIf:
		return args[1].kind, args[1].options
	}
	l := p.Lines[e.Num]
	takes := map[int][]int{
		api.OpLine: {1, 2, 3, 4, 5}, api.OpSum: {api.Cents, api.Count}, api.OpLeast: {api.Cents, api.Count, api.Day}, api.OpGreatest: {api.Cents, api.Count, api.Day},
		api.OpAny: {api.Flag}, api.OpAll: {api.Flag},
	}
	switch {
	case !slices.Contains(takes[e.Op], l.Type):
		return 0, -1
	case l.Type == api.Choice:
		return l.Type, l.Options
	}
	return l.Type, -1
}

func modelName(s string) bool {
	const letters = "abcdefghijklmnopqrstuvwxyz"
	for i := range len(s) {
		allowed := letters
		if i > 0 {
			allowed += "0123456789_"
		}
		if !slices.Contains([]byte(allowed), s[i]) {
			return false
		}
	}
	return len(s) >= 1 && len(s) <= 12
}

// modelFaults gives all faults of a pack, in the order of the page; behind one whose followers make no sense it may give none.
func modelFaults(p api.Pack) iter.Seq2[api.Spot, api.Errno] {
	return func(yield func(api.Spot, api.Errno) bool) {
		tell := func(bad bool, s api.Spot, e api.Errno) bool { return !bad || yield(s, e) }
		if !tell(len(p.Options) > 4, spot(2, 0, -1), api.ErrTypeSize) || !tell(len(p.Tables) > 4, spot(3, 0, -1), api.ErrTypeSize) ||
			!tell(len(p.Groups) > 4, spot(4, 0, -1), api.ErrTypeSize) || !tell(len(p.Lines) == 0 || len(p.Lines) > 48, spot(5, 0, -1), api.ErrTypeSize) ||
			!tell(len(p.Checks) > 16, spot(6, 0, -1), api.ErrTypeSize) ||
			!tell(!modelName(p.Name), spot(1, 0, -1), api.ErrTypeName) || !tell(p.Year < 1900 || p.Year > 2199, spot(1, 0, -1), api.ErrTypeSize) {
			return
		}
		if modelItems(p, tell) && tell(modelCells(p) > 256, spot(1, 0, -1), api.ErrTypeSize) {
			modelExprs(p, tell)
		}
	}
}

func modelItems(p api.Pack, tell func(bool, api.Spot, api.Errno) bool) bool {
	space := map[string]int{}
	name := func(s string, at api.Spot) bool {
		space[s]++
		return tell(!modelName(s), at, api.ErrTypeName) && tell(space[s] > 1, at, api.ErrTypeTwice)
	}
	for i, o := range p.Options {
		at := spot(2, i, -1)
		if !name(o.Name, at) || !tell(len(o.Names) == 0 || len(o.Names) > 8, at, api.ErrTypeSize) {
			return false
		}
		own := map[string]int{}
		for _, s := range o.Names {
			own[s]++
			if !tell(!modelName(s), at, api.ErrTypeName) || !tell(own[s] > 1, at, api.ErrTypeTwice) {
				return false
			}
		}
	}
	for i, t := range p.Tables {
		at := spot(3, i, -1)
		if !name(t.Name, at) || !tell(len(t.Bands) == 0 || len(t.Bands) > 8, at, api.ErrTypeSize) {
			return false
		}
		next := int64(0)
		for j, b := range t.Bands {
			if !tell(j == 0 && b.From != 0 || b.From < next || b.From > 9999999999999 || !between(b.Rate, 0, 1000000), at, api.ErrTypeTable) {
				return false
			}
			next = b.From + 1
		}
	}
	for i, g := range p.Groups {
		if at := spot(4, i, -1); !name(g.Name, at) || !tell(g.Rows < 1 || g.Rows > 8, at, api.ErrTypeGroup) {
			return false
		}
	}
	group := func(n int) bool { return n == -1 || between(int64(n), 0, int64(len(p.Groups))-1) }
	for i, l := range p.Lines {
		at := spot(5, i, -1)
		typed := l.Type >= 1 && l.Type <= 4 && l.Options == -1 || l.Type == 5 && between(int64(l.Options), 0, int64(len(p.Options))-1)
		n := len(l.Clauses)
		if !name(l.Name, at) || !tell(!typed, at, api.ErrTypeLine) || !tell(!group(l.Group), at, api.ErrTypeGroup) || !tell(l.Input != (n == 0) || n > 6, at, api.ErrTypeLine) {
			return false
		}
		had := map[int]int{}
		for j, c := range l.Clauses {
			had[c.Priority]++
			first := c.Priority == 0 && !c.Guarded && text(c.Guard) == text(api.Expr{})
			other := c.Guarded && c.Priority >= 1 && c.Priority <= 9 && had[c.Priority] == 1
			if !tell(j == 0 && !first || j > 0 && !other, spot(5, i, j), api.ErrTypeClause) {
				return false
			}
		}
	}
	for i, c := range p.Checks {
		at := spot(6, i, -1)
		plain := !slices.ContainsFunc([]byte(c.Text), func(b byte) bool { return b < 0x20 || b > 0x7e })
		if !name(c.Name, at) || !tell(!group(c.Group), at, api.ErrTypeGroup) || !tell(len(c.Text) == 0 || len(c.Text) > 40 || !plain, at, api.ErrTypeName) {
			return false
		}
	}
	return true
}

func modelExprs(p api.Pack, tell func(bool, api.Spot, api.Errno) bool) {
	one := func(at api.Spot, group int, e api.Expr, kind, options int, all *int) bool {
		x := modelType(p, group, e)
		if x.errno != api.OK {
			at.Path = slices.Concat(at.Path, x.path)
			return tell(true, at, x.errno)
		}
		*all += nodes(e)
		return tell(x.kind != kind || x.options != options, at, api.ErrTypeKind) && tell(*all > 60, at, api.ErrTypeSize)
	}
	for i, l := range p.Lines {
		all := 0
		for j, c := range l.Clauses {
			if c.Guarded && !one(spot(5, i, j, 0), l.Group, c.Guard, api.Flag, -1, &all) || !one(spot(5, i, j, 1), l.Group, c.Body, l.Type, l.Options, &all) {
				return
			}
		}
	}
	for i, c := range p.Checks {
		all := 0
		if !one(spot(6, i, -1), c.Group, c.When, api.Flag, -1, &all) {
			return
		}
	}
}

func modelCheck(p api.Pack) (api.Spot, api.Errno) {
	for s, e := range modelFaults(p) {
		return s, e
	}
	return api.Spot{}, api.OK
}

func modelCells(p api.Pack) int {
	var groups []int
	for _, l := range p.Lines {
		groups = append(groups, l.Group)
	}
	for _, c := range p.Checks {
		groups = append(groups, c.Group)
	}
	n := len(groups)
	for i, g := range p.Groups {
		rows := max(0, min(8, g.Rows))
		n += rows
		for _, x := range groups {
			if x == i {
				n += rows - 1
			}
		}
	}
	return n
}
