// Package money: checked arithmetic on values: see doc/01-money.md.
package money

import (
	"cmp"

	"levy/api"
)

// Add tells the sum of two values of one kind.
func Add(a, b api.Value) api.Value {
	if v, is := refusal(toAdd, a, b); is {
		return v
	}
	return fitting(a.Kind, a.Num+b.Num, true)
}

// Sub tells their difference.
func Sub(a, b api.Value) api.Value {
	if v, is := refusal(toAdd, a, b); is {
		return v
	}
	return fitting(a.Kind, a.Num-b.Num, true)
}

// Neg tells the opposite.
func Neg(a api.Value) api.Value {
	if v, is := refusal(toAdd, a); is {
		return v
	}
	return fitting(a.Kind, -a.Num, true)
}

// Abs tells the amount without its sign.
func Abs(a api.Value) api.Value {
	if v, is := refusal(toAdd, a); is {
		return v
	}
	return fitting(a.Kind, max(a.Num, -a.Num), true)
}

// Min tells the lesser one.
func Min(a, b api.Value) api.Value {
	if v, is := refusal(toOrder, a, b); is {
		return v
	}
	return fitting(a.Kind, min(a.Num, b.Num), true)
}

// Max tells the greater one.
func Max(a, b api.Value) api.Value {
	if v, is := refusal(toOrder, a, b); is {
		return v
	}
	return fitting(a.Kind, max(a.Num, b.Num), true)
}

// Clamp tells x, or the bound that it passes.
func Clamp(x, low, high api.Value) api.Value {
	if v, is := refusal(toOrder, x, low, high); is {
		return v
	}
	switch { // low goes first: it decides where low is above high
	case x.Num < low.Num:
		return low
	case x.Num > high.Num:
		return high
	}
	return x
}

// Scale tells a times num / den, rounded once.
func Scale(a api.Value, num, den int64, mode int) api.Value {
	if v, is := refusal(toShare, a); is {
		return v
	}
	if !within(num, -api.MaxRatio, api.MaxRatio) || !within(den, 1, api.MaxRatio) || !isMode(mode) {
		return fault(api.Wrong)
	}
	n, near := ratio(a.Num, num, den).whole(mode)
	return fitting(api.Cents, n, near)
}

// Times tells cents times a count.
func Times(a, n api.Value) api.Value {
	if v, is := refusalOfPair(a, n); is {
		return v
	}
	product, near := ratio(a.Num, n.Num, 1).whole(api.Down)
	return fitting(api.Cents, product, near)
}

// Split tells cents divided by a count, rounded once.
func Split(a, n api.Value, mode int) api.Value {
	if v, is := refusalOfPair(a, n); is {
		return v
	}
	if !isMode(mode) {
		return fault(api.Wrong)
	}
	if n.Num == 0 {
		return fault(api.Zero)
	}
	share, near := ratio(a.Num, 1, n.Num).whole(mode)
	return fitting(api.Cents, share, near)
}

// Round tells a rounded to a multiple of unit.
func Round(a api.Value, unit int64, mode int) api.Value {
	if v, is := refusal(toShare, a); is {
		return v
	}
	if !within(unit, 1, api.MaxCents) || !isMode(mode) {
		return fault(api.Wrong)
	}
	n, near := ratio(a.Num, 1, unit).whole(mode)
	return fitting(api.Cents, n*unit, near) // less than unit away from a: no int64 is outgrown
}

// Compare tells a flag: op is one of OpEq to OpGe.
func Compare(op int, a, b api.Value) api.Value {
	use := toOrder
	if op == api.OpEq || op == api.OpNe {
		use = toMatch
	}
	if v, is := refusal(use, a, b); is {
		return v
	}
	order := cmp.Compare(a.Num, b.Num)
	switch op {
	case api.OpEq:
		return flag(order == 0)
	case api.OpNe:
		return flag(order != 0)
	case api.OpLt:
		return flag(order < 0)
	case api.OpLe:
		return flag(order <= 0)
	case api.OpGt:
		return flag(order > 0)
	case api.OpGe:
		return flag(order >= 0)
	}
	return fault(api.Wrong)
}
