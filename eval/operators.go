package eval

import (
	"slices"

	"levy/api"
	"levy/days"
	"levy/money"
)

// operator: what a node of this operator is worth. Constants have their kind alone, and OpLine nothing: they are no operations.
type operator struct {
	kind   int // of a constant's value
	reckon reckoner
}

// reckoner tells what an operation is worth. It asks for arguments and rows one by one, from the left, and for none that doesn't count.
type reckoner func(o *operation, read reader) api.Value

// combiner tells what an operation is worth, by values that were all asked for.
type combiner func(o *operation, l []api.Value) api.Value

func operators() []operator {
	compare := strict(func(o *operation, l []api.Value) api.Value { return money.Compare(o.op, l[0], l[1]) })
	return []operator{
		api.OpCents:  {kind: api.Cents},
		api.OpCount:  {kind: api.Count},
		api.OpFlag:   {kind: api.Flag},
		api.OpDay:    {kind: api.Day},
		api.OpChoice: {kind: api.Choice},

		api.OpSum:      {reckon: overColumn(asItIs, sum)},
		api.OpLeast:    {reckon: overColumn(asItIs, together(money.Min))},
		api.OpGreatest: {reckon: overColumn(asItIs, together(money.Max))},
		api.OpAny:      {reckon: overColumn(truth, anyTrue)},
		api.OpAll:      {reckon: overColumn(truth, allTrue)},
		api.OpUsed:     {reckon: countUsed},

		api.OpAdd:   {reckon: strict(together(money.Add))},
		api.OpMin:   {reckon: strict(together(money.Min))},
		api.OpMax:   {reckon: strict(together(money.Max))},
		api.OpSub:   {reckon: strict(together(money.Sub))},
		api.OpTimes: {reckon: strict(together(money.Times))},
		api.OpNeg:   {reckon: strict(alone(money.Neg))},
		api.OpAbs:   {reckon: strict(alone(money.Abs))},

		api.OpClamp: {reckon: strict(func(_ *operation, l []api.Value) api.Value { return money.Clamp(l[0], l[1], l[2]) })},
		api.OpScale: {reckon: strict(func(o *operation, l []api.Value) api.Value { return money.Scale(l[0], o.num, o.den, o.mode) })},
		api.OpSplit: {reckon: strict(func(o *operation, l []api.Value) api.Value { return money.Split(l[0], l[1], o.mode) })},
		api.OpRound: {reckon: strict(func(o *operation, l []api.Value) api.Value { return money.Round(l[0], o.num, o.mode) })},

		api.OpBracket: {reckon: strict(func(o *operation, l []api.Value) api.Value { return money.Bracket(o.bands, l[0]) })},

		api.OpEq: {reckon: compare},
		api.OpNe: {reckon: compare},
		api.OpLt: {reckon: compare},
		api.OpLe: {reckon: compare},
		api.OpGt: {reckon: compare},
		api.OpGe: {reckon: compare},

		api.OpAnd:     {reckon: upToFirst(false)},
		api.OpOr:      {reckon: upToFirst(true)},
		api.OpNot:     {reckon: turned},
		api.OpIf:      {reckon: oneOfTwo},
		api.OpElse:    {reckon: firstOrSecond},
		api.OpIsBlank: {reckon: blankness},

		api.OpYear:      {reckon: strict(dated(api.Count, year, api.Day))},
		api.OpAge:       {reckon: strict(dated(api.Count, age, api.Day, api.Day))},
		api.OpMonths:    {reckon: strict(dated(api.Count, months, api.Day, api.Day))},
		api.OpDays:      {reckon: strict(dated(api.Count, apart, api.Day, api.Day))},
		api.OpAddMonths: {reckon: strict(dated(api.Day, later, api.Day, api.Count))},
	}
}

// strict reckons all arguments, up to the first that is a Fault or Blank.
func strict(c combiner) reckoner {
	return func(o *operation, read reader) api.Value {
		var l []api.Value
		for _, a := range o.args {
			x := present(a.worth(read))
			if isFault(x) {
				return x
			}
			l = append(l, x)
		}
		return c(o, l)
	}
}

func alone(f func(a api.Value) api.Value) combiner {
	return func(_ *operation, l []api.Value) api.Value { return f(l[0]) }
}

// together takes values together from the left. A Fault that comes about stays, as money's calls hand it on; of no values it is Blank.
func together(f func(a, b api.Value) api.Value) combiner {
	return func(_ *operation, l []api.Value) api.Value {
		var all api.Value
		for i, x := range l {
			if i == 0 {
				all = x
			} else {
				all = f(all, x)
			}
		}
		return all
	}
}

// overColumn goes through the used rows. What is read there is looked at on the spot, and a Fault ends the reading; Blanks are left out.
func overColumn(look func(x api.Value) api.Value, c combiner) reckoner {
	return func(o *operation, read reader) api.Value {
		var l []api.Value
		for _, r := range o.rows {
			used := truth(read(r.flag))
			if isFault(used) {
				return used
			}
			if used == flag(false) {
				continue
			}
			x := read(r.cell)
			if isBlank(x) {
				continue
			}
			if x = look(x); isFault(x) {
				return x
			}
			l = append(l, x)
		}
		return c(o, l)
	}
}

func asItIs(x api.Value) api.Value { return x }

func sum(o *operation, l []api.Value) api.Value { return money.Sum(o.column, slices.Values(l)) }

func anyTrue(_ *operation, l []api.Value) api.Value { return flag(slices.Contains(l, flag(true))) }

func allTrue(_ *operation, l []api.Value) api.Value { return flag(!slices.Contains(l, flag(false))) }

func countUsed(o *operation, read reader) api.Value {
	n := int64(0)
	for _, r := range o.rows {
		used := truth(read(r.flag))
		if isFault(used) {
			return used
		}
		n += used.Num
	}
	return api.Value{Kind: api.Count, Num: n}
}

// upToFirst goes through truths up to the first that is this one, or a Fault.
func upToFirst(b bool) reckoner {
	return func(o *operation, read reader) api.Value {
		for _, a := range o.args {
			if t := truth(a.worth(read)); t != flag(!b) {
				return t
			}
		}
		return flag(!b)
	}
}

func turned(o *operation, read reader) api.Value {
	t := truth(o.args[0].worth(read))
	if isFault(t) {
		return t
	}
	return flag(t == flag(false))
}

func oneOfTwo(o *operation, read reader) api.Value {
	t := truth(o.args[0].worth(read))
	if isFault(t) {
		return t
	}
	if t == flag(true) {
		return o.args[1].worth(read)
	}
	return o.args[2].worth(read)
}

func firstOrSecond(o *operation, read reader) api.Value {
	x := o.args[0].worth(read)
	if isBlank(x) {
		return o.args[1].worth(read)
	}
	return x
}

func blankness(o *operation, read reader) api.Value {
	x := o.args[0].worth(read)
	if isFault(x) {
		return x
	}
	return flag(isBlank(x))
}

// dated asks the calendar for a number of a kind, if the values are of the kinds that it needs.
func dated(kind int, ask func(l []int) (int, api.Errno), needs ...int) combiner {
	return func(_ *operation, l []api.Value) api.Value {
		var numbers []int
		for i, x := range l {
			if x.Kind != needs[i] {
				return fault(api.Wrong)
			}
			numbers = append(numbers, int(x.Num))
		}
		n, errno := ask(numbers)
		if errno != api.OK {
			return fault(api.Range)
		}
		return api.Value{Kind: kind, Num: int64(n)}
	}
}

func year(l []int) (int, api.Errno) {
	date, errno := days.Date(l[0])
	return date.Year, errno
}

func age(l []int) (int, api.Errno) { return days.Age(l[0], l[1]) }

func months(l []int) (int, api.Errno) { return days.Between(l[0], l[1]) }

func later(l []int) (int, api.Errno) { return days.Add(l[0], l[1]) }

func apart(l []int) (int, api.Errno) { return l[1] - l[0], api.OK }
