package money_test

import (
	"iter"
	"math"
	"slices"
	"testing"

	"levy/api"
	"levy/money"
)

// watched gives what l holds, and tells how many were given and how often it was begun.
func watched(l []api.Value) (seq iter.Seq[api.Value], given, begun *int) {
	given, begun = new(int), new(int)
	return func(yield func(api.Value) bool) {
		*begun++
		for _, v := range l {
			*given++
			if !yield(v) {
				return
			}
		}
	}, given, begun
}

func TestSum(t *testing.T) { // P1.12
	wrong := fault(api.Wrong)
	for i, x := range []struct {
		kind  int
		l     []api.Value
		want  api.Value
		given int
	}{
		{api.Cents, []api.Value{cents(1), cents(2), cents(-7)}, cents(-4), 3},
		{api.Count, []api.Value{count(1), count(2), count(-7)}, count(-4), 3},
		{api.Cents, nil, cents(0), 0}, {api.Count, nil, count(0), 0},
		{api.Cents, []api.Value{blank, blank}, cents(0), 2}, {api.Count, []api.Value{blank, count(3), blank}, count(3), 3},
		{api.Cents, []api.Value{cents(maxC), cents(1), cents(-1)}, cents(maxC), 3}, {api.Cents, []api.Value{cents(-maxC), cents(-maxC), cents(maxC)}, cents(-maxC), 3},
		{api.Cents, []api.Value{cents(maxC), cents(1)}, fault(api.Over), 2}, {api.Cents, []api.Value{cents(-maxC), cents(-1)}, fault(api.Over), 2},
		{api.Count, []api.Value{count(maxN), count(1)}, fault(api.Over), 2}, {api.Count, []api.Value{count(-maxN), count(-1), count(1)}, count(-maxN), 3},
		{api.Cents, []api.Value{cents(maxC), cents(1), fault(api.Zero), cents(1)}, fault(api.Zero), 3},
		{api.Cents, []api.Value{cents(1), count(1), fault(api.Over)}, wrong, 2}, {api.Count, []api.Value{cents(1), count(1)}, wrong, 1},
		{api.Cents, []api.Value{flag(1), cents(1)}, wrong, 1}, {api.Cents, []api.Value{day(1), cents(1)}, wrong, 1}, {api.Cents, []api.Value{choice(1), cents(1)}, wrong, 1},
		{api.Cents, []api.Value{cents(1), fault(api.Needed), count(1)}, fault(api.Needed), 2}, {api.Cents, []api.Value{fault(api.Over), fault(api.Zero)}, fault(api.Over), 1},
		{api.Cents, []api.Value{cents(1), {Kind: api.Blank, Num: 1}, cents(1)}, wrong, 2}, {api.Cents, []api.Value{cents(maxC + 1), cents(-1)}, wrong, 1},
		{api.Cents, []api.Value{fault(0), cents(-1)}, wrong, 1}, {api.Cents, []api.Value{{Kind: 7}, cents(-1)}, wrong, 1}, {api.Cents, []api.Value{cents(math.MinInt64), cents(-1)}, wrong, 1},
	} {
		seq, given, begun := watched(x.l)
		got := money.Sum(x.kind, seq)
		if got != x.want || *given != x.given || *begun != 1 {
			t.Errorf("P1.12: row %d: %v, %d given, begun %d times; want %v, %d given, once", i, got, *given, *begun, x.want, x.given)
		}
	}
	for _, kind := range []int{api.Blank, api.Flag, api.Day, api.Choice, api.Fault, 7, -1, math.MinInt, math.MaxInt} {
		seq, given, begun := watched([]api.Value{{Kind: kind}})
		if got := money.Sum(kind, seq); got != wrong || *given != 0 || *begun != 0 {
			t.Errorf("P1.12: kind %d: %v, %d given, begun %d times", kind, got, *given, *begun)
		}
		same(t, "P1.12", money.Sum(kind, nil), wrong)
	}
	same(t, "P1.12", money.Sum(api.Cents, nil), cents(0))
	same(t, "P1.12", money.Sum(api.Count, nil), count(0))
}

func TestSumIsExact(t *testing.T) { // P1.12: on the way, and at the end, beyond what 64 bits hold
	const many = 1844674 // of the greatest amount, and rest more: 2^64 + 5
	const rest = 1<<64 + 5 - many*maxC
	long := func(sign int64, back bool) iter.Seq[api.Value] {
		l := slices.Concat(slices.Repeat([]api.Value{cents(sign * maxC)}, many), []api.Value{cents(sign * rest)})
		if back {
			l = append(l, slices.Repeat([]api.Value{cents(-sign * maxC)}, many)...)
		}
		return slices.Values(l)
	}
	for _, sign := range []int64{1, -1} {
		same(t, "P1.12", money.Sum(api.Cents, long(sign, false)), fault(api.Over))
		same(t, "P1.12", money.Sum(api.Cents, long(sign, true)), cents(sign*rest))
	}
}

func TestSumOfUnrulyIterators(t *testing.T) { // P1.13: whatever is handed in
	goesOn := func(yield func(api.Value) bool) {
		for _, v := range []api.Value{cents(1), fault(api.Range), cents(2), fault(api.Over)} {
			yield(v)
		}
	}
	same(t, "P1.13", money.Sum(api.Cents, goesOn), fault(api.Range))
	same(t, "P1.13", money.Sum(api.Cents, func(yield func(api.Value) bool) { yield(cents(1)); panic("no more") }), fault(api.Wrong))
	same(t, "P1.13", money.Sum(api.Cents, func(yield func(api.Value) bool) { panic(nil) }), fault(api.Wrong))
	same(t, "P1.13", money.Sum(api.Cents, func(yield func(api.Value) bool) { yield(fault(api.Zero)); panic("no more") }), fault(api.Zero))
}
