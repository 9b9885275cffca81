package money

import (
	"math/bits"

	"levy/api"
)

// exact is a quotient that isn't rounded yet: (high * 2^64 + low) / den, below zero if below says so.
// Two words, because cents times a ratio outgrow one (10^13 * 10^9).
type exact struct {
	below          bool
	high, low, den uint64
}

// ratio is a * num / den. The arguments are within bounds that are far from the least int64, and den isn't 0.
func ratio(a, num, den int64) exact {
	high, low := bits.Mul64(size(a), size(num))
	below := (a < 0) != (num < 0)
	return exact{below != (den < 0), high, low, size(den)}
}

func size(n int64) uint64 {
	if n < 0 {
		return uint64(-n)
	}
	return uint64(n)
}

func isMode(mode int) bool { return api.Down <= mode && mode <= api.HalfEven }

// whole rounds by mode. It answers false where the quotient is beyond MaxCents before it is rounded:
// no mode brings it back, since none makes the amount without its sign a lesser whole number.
func (q exact) whole(mode int) (int64, bool) {
	if q.high >= q.den { // bits.Div64 would panic: the quotient needs more than one word
		return 0, false
	}
	n, rest := bits.Div64(q.high, q.low, q.den)
	if n > api.MaxCents {
		return 0, false
	}
	if rest != 0 && q.outward(mode, n, rest) {
		n++
	}
	if q.below {
		return -int64(n), true
	}
	return int64(n), true
}

// outward tells whether mode takes a quotient that lies rest / den beyond n on to the next one away from zero.
func (q exact) outward(mode int, n, rest uint64) bool {
	left := q.den - rest
	switch mode {
	case api.Down:
		return q.below
	case api.Up:
		return !q.below
	case api.HalfUp:
		return rest > left || rest == left && !q.below
	case api.HalfEven:
		return rest > left || rest == left && n%2 == 1
	}
	return false
}
