package money_test

import (
	"iter"
	"math"
	"math/big"
	"slices"
	"testing"

	"levy/api"
	"levy/money"
)

const (
	maxC = 9999999999999
	maxN = 1000000000
)

var modes = []int{api.Down, api.Up, api.Inward, api.HalfUp, api.HalfEven}

var noModes = []int{0, 6, -1, 100, math.MinInt, math.MaxInt}

func cents(n int64) api.Value  { return api.Value{Kind: api.Cents, Num: n} }
func count(n int64) api.Value  { return api.Value{Kind: api.Count, Num: n} }
func flag(n int64) api.Value   { return api.Value{Kind: api.Flag, Num: n} }
func day(n int64) api.Value    { return api.Value{Kind: api.Day, Num: n} }
func choice(n int64) api.Value { return api.Value{Kind: api.Choice, Num: n} }
func fault(n int64) api.Value  { return api.Value{Kind: api.Fault, Num: n} }

var blank = api.Value{}

func same(t *testing.T, promise string, got, want api.Value) {
	t.Helper()
	if got != want {
		t.Errorf("%s: got %v, want %v", promise, got, want)
	}
}

// call: a call of the face by its operands alone; its other arguments are fixed.
type call struct {
	name  string
	arity int
	does  func(v []api.Value) api.Value
	takes func(kinds []int) bool
}

// oneOf: all operands are of one kind, and it is among these.
func oneOf(l ...int) func([]int) bool {
	return func(kinds []int) bool {
		return slices.Contains(l, kinds[0]) && len(slices.Compact(slices.Clone(kinds))) == 1
	}
}

func pair(kinds []int) bool { return slices.Equal(kinds, []int{api.Cents, api.Count}) }

func none([]int) bool { return false }

func two(name string, does func(a, b api.Value) api.Value, takes func([]int) bool) call {
	return call{name, 2, func(v []api.Value) api.Value { return does(v[0], v[1]) }, takes}
}

func one(name string, does func(a api.Value) api.Value, takes func([]int) bool) call {
	return call{name, 1, func(v []api.Value) api.Value { return does(v[0]) }, takes}
}

// calls: every call with operands, with other arguments that may be.
func calls() []call {
	sums := oneOf(api.Cents, api.Count)
	ordered := oneOf(api.Cents, api.Count, api.Day)
	matched := oneOf(api.Cents, api.Count, api.Flag, api.Day, api.Choice)
	amount := oneOf(api.Cents)
	l := []call{
		two("Add", money.Add, sums), two("Sub", money.Sub, sums), one("Neg", money.Neg, sums), one("Abs", money.Abs, sums),
		two("Min", money.Min, ordered), two("Max", money.Max, ordered),
		{"Clamp", 3, func(v []api.Value) api.Value { return money.Clamp(v[0], v[1], v[2]) }, ordered},
		two("Times", money.Times, pair),
		one("Bracket", func(a api.Value) api.Value { return money.Bracket([]api.Band{{From: 0, Rate: 5}}, a) }, amount),
	}
	for _, mode := range modes {
		l = append(l,
			one("Scale", func(a api.Value) api.Value { return money.Scale(a, 1, 2, mode) }, amount),
			two("Split", func(a, n api.Value) api.Value { return money.Split(a, n, mode) }, pair),
			one("Round", func(a api.Value) api.Value { return money.Round(a, 10, mode) }, amount))
	}
	for op := api.OpEq; op <= api.OpGe; op++ {
		takes := ordered
		if op <= api.OpNe {
			takes = matched
		}
		l = append(l, two("Compare", func(a, b api.Value) api.Value { return money.Compare(op, a, b) }, takes))
	}
	return l
}

// spoilt: the calls with another argument that may not be: they take nothing.
func spoilt() []call {
	l := []call{
		one("Scale num", func(a api.Value) api.Value { return money.Scale(a, api.MaxRatio+1, 1, 1) }, none),
		one("Scale den", func(a api.Value) api.Value { return money.Scale(a, 1, 0, 1) }, none),
		one("Round unit", func(a api.Value) api.Value { return money.Round(a, 0, 1) }, none),
		one("Bracket none", func(a api.Value) api.Value { return money.Bracket(nil, a) }, none),
		one("Bracket rate", func(a api.Value) api.Value { return money.Bracket([]api.Band{{Rate: -1}}, a) }, none),
	}
	for _, mode := range noModes {
		l = append(l,
			one("Scale mode", func(a api.Value) api.Value { return money.Scale(a, 1, 1, mode) }, none),
			one("Round mode", func(a api.Value) api.Value { return money.Round(a, 1, mode) }, none),
			two("Split mode", func(a, n api.Value) api.Value { return money.Split(a, n, mode) }, none))
	}
	for _, op := range []int{0, -1, api.OpEq - 1, api.OpGe + 1, api.OpAdd, math.MinInt, math.MaxInt} {
		l = append(l, two("Compare op", func(a, b api.Value) api.Value { return money.Compare(op, a, b) }, none))
	}
	return l
}

// tuples: every list of n of these.
func tuples(n int, of []api.Value) iter.Seq[[]api.Value] {
	return func(yield func([]api.Value) bool) {
		at := make([]int, n)
		for {
			l := make([]api.Value, n)
			for i, k := range at {
				l[i] = of[k]
			}
			if !yield(l) {
				return
			}
			i := n - 1
			for i >= 0 && at[i] == len(of)-1 {
				at[i] = 0
				i--
			}
			if i < 0 {
				return
			}
			at[i]++
		}
	}
}

// edges: values at, next to and beyond every bound, of every kind and of kinds that are none.
func edges() []api.Value {
	nums := []int64{math.MinInt64, -maxC - 1, -maxC, -maxN - 1, -maxN, -1, 0, 1, 2, 5, 6, 7, 8, api.MaxDay, api.MaxDay + 1, maxN, maxN + 1, maxC, maxC + 1, math.MaxInt64}
	var l []api.Value
	for _, kind := range []int{math.MinInt, -1, 0, 1, 2, 3, 4, 5, 6, 7, math.MaxInt} {
		for _, n := range nums {
			l = append(l, api.Value{Kind: kind, Num: n})
		}
	}
	return l
}

// rounded: num / den rounded by mode, from the words of P1.10, in big numbers.
func rounded(num, den *big.Int, mode int) *big.Int {
	q := new(big.Rat).SetFrac(num, den)
	down := new(big.Int).Div(q.Num(), q.Denom()) // Euclid's, with a denominator above 0: the floor
	up := new(big.Int).Set(down)
	if !q.IsInt() {
		up.Add(up, big.NewInt(1))
	}
	below := new(big.Rat).Sub(q, new(big.Rat).SetInt(down))
	above := new(big.Rat).Sub(new(big.Rat).SetInt(up), q)
	switch near := below.Cmp(above); {
	case mode == api.Down, mode == api.Inward && q.Sign() >= 0:
		return down
	case mode == api.Up, mode == api.Inward:
		return up
	case near < 0:
		return down
	case near > 0:
		return up
	case mode == api.HalfEven && down.Bit(0) == 0:
		return down
	}
	return up
}

// asCents: the big number as cents, or Fault Over.
func asCents(n *big.Int) api.Value {
	if n.CmpAbs(big.NewInt(maxC)) > 0 {
		return fault(api.Over)
	}
	return cents(n.Int64())
}

func product(l ...int64) *big.Int {
	n := big.NewInt(1)
	for _, x := range l {
		n.Mul(n, big.NewInt(x))
	}
	return n
}

// spread: numbers up to most that lie all over, from a fixed rule.
func spread(howMany int, most int64) []int64 {
	l := make([]int64, howMany)
	x := uint64(88172645463325252)
	for i := range l {
		x ^= x << 13
		x ^= x >> 7
		x ^= x << 17
		shrunk := x >> (x % 60) // small ones as often as great ones
		l[i] = int64(shrunk % uint64(most+1))
		if x&(1<<61) != 0 {
			l[i] = -l[i]
		}
	}
	return l
}
