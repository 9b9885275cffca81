package types

import (
	"math"

	"levy/api"
)

// operator: what an operator asks of its node, and what the node is worth.
type operator struct {
	num, den, mode span                       // what the numbers may be
	least, most    int                        // how many arguments there are
	only           int                        // which operator they must have; 0: any
	needs          [2]need                    // what the first argument must be, and what all others
	finds          func(scope, api.Expr) bool // whether what the node names is there; nil: it names nothing
	kind           teller
}

// teller tells what a node is worth, by its arguments' kinds; false: the node itself is to blame.
type teller func(s scope, e api.Expr, args []kind) (kind, bool)

// span: the numbers that may stand somewhere, both ends among them. The zero span is 0 alone, as where nothing is said.
type span struct {
	from, to int64
}

func (s span) holds(n int64) bool { return s.from <= n && n <= s.to }

// need: of which kinds an argument must be one, and which argument it must be alike (itself, where none is asked for).
type need struct {
	kinds, like int
}

// scope: what an expression is looked at in.
type scope struct {
	pack  api.Pack
	group int
}

func operators() []operator {
	all, modes := span{math.MinInt64, math.MaxInt64}, span{api.Down, api.HalfEven}
	sums, order, alike := likeFirst(amounts), likeFirst(ordered), likeFirst(every)
	money, truths, days := likeFirst(cents), likeFirst(flags), likeFirst(dates)
	moneyAndCount, dayAndCount, choose := [2]need{{cents, 0}, {counts, 1}}, [2]need{{dates, 0}, {counts, 1}}, [2]need{{flags, 0}, {every, 1}}
	isCents, isCount, isFlag, isDay, isFirst := always(api.Cents), always(api.Count), always(api.Flag), always(api.Day), ofArg(0)
	return []operator{
		api.OpCents: {num: span{-api.MaxCents, api.MaxCents}, kind: isCents},
		api.OpCount: {num: span{-api.MaxCount, api.MaxCount}, kind: isCount},
		api.OpFlag:  {num: span{0, 1}, kind: isFlag},
		api.OpDay:   {num: span{0, api.MaxDay}, kind: isDay},

		api.OpChoice:   {num: all, den: all, finds: findsOption, kind: ofTable},
		api.OpLine:     {num: all, finds: findsLine, kind: ofLine(every)},
		api.OpSum:      {num: all, finds: findsColumn, kind: ofLine(amounts)},
		api.OpLeast:    {num: all, finds: findsColumn, kind: ofLine(ordered)},
		api.OpGreatest: {num: all, finds: findsColumn, kind: ofLine(ordered)},
		api.OpAny:      {num: all, finds: findsColumn, kind: ofLine(flags)},
		api.OpAll:      {num: all, finds: findsColumn, kind: ofLine(flags)},
		api.OpUsed:     {num: all, finds: findsGroup, kind: isCount},

		api.OpAdd:   {least: 2, most: api.MaxArgs, needs: sums, kind: isFirst},
		api.OpMin:   {least: 2, most: api.MaxArgs, needs: sums, kind: isFirst},
		api.OpMax:   {least: 2, most: api.MaxArgs, needs: sums, kind: isFirst},
		api.OpSub:   {least: 2, most: 2, needs: sums, kind: isFirst},
		api.OpNeg:   {least: 1, most: 1, needs: sums, kind: isFirst},
		api.OpAbs:   {least: 1, most: 1, needs: sums, kind: isFirst},
		api.OpClamp: {least: 3, most: 3, needs: sums, kind: isFirst},

		api.OpScale:   {num: span{-api.MaxRatio, api.MaxRatio}, den: span{1, api.MaxRatio}, mode: modes, least: 1, most: 1, needs: money, kind: isCents},
		api.OpTimes:   {least: 2, most: 2, needs: moneyAndCount, kind: isCents},
		api.OpSplit:   {mode: modes, least: 2, most: 2, needs: moneyAndCount, kind: isCents},
		api.OpRound:   {num: span{1, api.MaxCents}, mode: modes, least: 1, most: 1, needs: money, kind: isCents},
		api.OpBracket: {num: all, least: 1, most: 1, needs: money, finds: findsTable, kind: isCents},

		api.OpEq:  {least: 2, most: 2, needs: alike, kind: isFlag},
		api.OpNe:  {least: 2, most: 2, needs: alike, kind: isFlag},
		api.OpLt:  {least: 2, most: 2, needs: order, kind: isFlag},
		api.OpLe:  {least: 2, most: 2, needs: order, kind: isFlag},
		api.OpGt:  {least: 2, most: 2, needs: order, kind: isFlag},
		api.OpGe:  {least: 2, most: 2, needs: order, kind: isFlag},
		api.OpAnd: {least: 2, most: api.MaxArgs, needs: truths, kind: isFlag},
		api.OpOr:  {least: 2, most: api.MaxArgs, needs: truths, kind: isFlag},
		api.OpNot: {least: 1, most: 1, needs: truths, kind: isFlag},

		api.OpIf:      {least: 3, most: 3, needs: choose, kind: ofArg(1)},
		api.OpIsBlank: {least: 1, most: 1, only: api.OpLine, needs: alike, kind: isFlag},
		api.OpElse:    {least: 2, most: 2, needs: alike, kind: isFirst},

		api.OpYear:      {least: 1, most: 1, needs: days, kind: isCount},
		api.OpAge:       {least: 2, most: 2, needs: days, kind: isCount},
		api.OpMonths:    {least: 2, most: 2, needs: days, kind: isCount},
		api.OpDays:      {least: 2, most: 2, needs: days, kind: isCount},
		api.OpAddMonths: {least: 2, most: 2, needs: dayAndCount, kind: isDay},
	}
}

// likeFirst asks for arguments that are all of one kind, which is one of some.
func likeFirst(kinds int) [2]need { return [2]need{{kinds, 0}, {kinds, 0}} }

func always(base int) teller {
	return func(scope, api.Expr, []kind) (kind, bool) { return plain(base), true }
}

func ofArg(n int) teller {
	return func(_ scope, _ api.Expr, args []kind) (kind, bool) { return args[n], true }
}

// ofLine tells of an operator that is worth what the line that it names is, if that is one of some kinds.
func ofLine(kinds int) teller {
	return func(s scope, e api.Expr, _ []kind) (kind, bool) {
		k := lineKind(s.pack.Lines[e.Num])
		return k, k.in(kinds)
	}
}

func ofTable(_ scope, e api.Expr, _ []kind) (kind, bool) { return kind{api.Choice, int(e.Den)}, true }

func findsOption(s scope, e api.Expr) bool { return hasOption(s.pack, e.Den, e.Num) }

func findsGroup(s scope, e api.Expr) bool { return has(s.pack.Groups, e.Num) }

func findsTable(s scope, e api.Expr) bool { return has(s.pack.Tables, e.Num) }

// findsLine asks for a line that has one cell where the expression stands.
func findsLine(s scope, e api.Expr) bool {
	if !has(s.pack.Lines, e.Num) {
		return false
	}
	l := s.pack.Lines[e.Num]
	return isKind(l.Type) && (l.Group == -1 || l.Group == s.group)
}

// findsColumn asks for a line that has a cell a row.
func findsColumn(s scope, e api.Expr) bool {
	if !has(s.pack.Lines, e.Num) {
		return false
	}
	l := s.pack.Lines[e.Num]
	return isKind(l.Type) && l.Group != -1
}
