package money_test

import (
	"math"
	"math/big"
	"slices"
	"testing"

	"levy/api"
	"levy/money"
)

var eight = []api.Band{{From: 0, Rate: 0}, {From: 1, Rate: 1000000}, {From: 2, Rate: 333333}, {From: 1000, Rate: 1}, {From: 50000, Rate: 999999},
	{From: 7777777, Rate: 500000}, {From: maxC - 1, Rate: 250000}, {From: maxC, Rate: 1000000}}

var tables = [][]api.Band{
	{{From: 0, Rate: 100000}, {From: 1000000, Rate: 250000}}, {{From: 0, Rate: 0}}, {{From: 0, Rate: 1000000}}, {{From: 0, Rate: 1}},
	{{From: 0, Rate: 500000}, {From: 3, Rate: 500001}}, {{From: 0, Rate: 1000000}, {From: 10, Rate: 0}, {From: 20, Rate: 333333}}, eight,
}

// bracket: P1.11's words, in big numbers.
func bracket(bands []api.Band, x int64) api.Value {
	sum := new(big.Int)
	for i, b := range bands {
		part := x - b.From
		if i+1 < len(bands) {
			part = min(part, bands[i+1].From-b.From)
		}
		sum.Add(sum, product(max(part, 0), b.Rate))
	}
	return asCents(rounded(sum, big.NewInt(1000000), api.HalfUp))
}

func incomes() []int64 {
	l := append(spread(300, maxC), 0, 1, 2, 3, 4, -1, -5, -maxC, maxC-2, maxC-1, maxC, 999999, 1000000, 1000001, 1000002, 2000000)
	for n := range int64(60) {
		l = append(l, n)
	}
	slices.Sort(l)
	return l
}

func TestBracket(t *testing.T) { // P1.11
	for x, want := range map[int64]int64{1000001: 100000, 1000002: 100001, 999999: 100000, 1000000: 100000, 2000000: 350000, 0: 0, -5: 0, -maxC: 0, 4: 0, 5: 1} {
		same(t, "P1.11", money.Bracket(tables[0], cents(x)), cents(want))
	}
	for _, l := range tables {
		for _, x := range incomes() {
			same(t, "P1.11", money.Bracket(l, cents(x)), bracket(l, x))
		}
	}
	same(t, "P1.11", money.Bracket([]api.Band{{Rate: 1000000}}, cents(maxC)), cents(maxC))
	// Each half cent of two bands is lost if they are rounded apart, or doubled.
	same(t, "P1.11", money.Bracket([]api.Band{{From: 0, Rate: 500000}, {From: 1, Rate: 499999}}, cents(2)), cents(1))
	same(t, "P1.11", money.Bracket([]api.Band{{From: 0, Rate: 400000}, {From: 1, Rate: 400000}}, cents(2)), cents(1))
}

func TestBracketRefuses(t *testing.T) { // P1.11
	nine := append(slices.Clone(eight[:7]), api.Band{From: maxC - 1, Rate: 0}, api.Band{From: maxC, Rate: 0})
	nine[6].From = 7777778
	bad := [][]api.Band{nil, {}, nine,
		{{From: 1}}, {{From: -1}}, {{From: math.MinInt64}}, {{From: math.MaxInt64}},
		{{Rate: 1000001}}, {{Rate: -1}}, {{Rate: math.MinInt64}}, {{Rate: math.MaxInt64}},
		{{}, {From: 0}}, {{}, {From: -1}}, {{}, {From: maxC + 1}}, {{}, {From: math.MaxInt64}}, {{}, {From: math.MaxInt64}, {From: math.MinInt64}},
		{{}, {From: 5}, {From: 5}}, {{}, {From: 5}, {From: 4}}, {{}, {From: maxC}, {From: maxC}}, {{}, {From: 5, Rate: 1000001}}, {{}, {From: 5, Rate: -1}}}
	for _, l := range bad {
		for _, x := range []int64{-maxC, -1, 0, 1, maxC} {
			same(t, "P1.11", money.Bracket(l, cents(x)), fault(api.Wrong))
		}
		same(t, "P1.11", money.Bracket(l, blank), fault(api.Needed))
		same(t, "P1.11", money.Bracket(l, fault(api.Zero)), fault(api.Zero))
	}
	for _, v := range []api.Value{count(1), flag(1), day(1), choice(1), cents(maxC + 1)} {
		same(t, "P1.11", money.Bracket(eight, v), fault(api.Wrong))
	}
	same(t, "P1.11", money.Bracket(nine[:8], cents(1)), cents(0))
}

func TestBracketLeavesItsBands(t *testing.T) { // what holds everywhere, rule 3
	room := slices.Concat(eight, []api.Band{{From: 3, Rate: 4}, {From: 5, Rate: 6}})
	was := slices.Clone(room)
	money.Bracket(room[:8], cents(maxC))
	money.Bracket(room[:0], cents(maxC))
	if !slices.Equal(room, was) {
		t.Errorf("Bracket changed its bands or the room behind them: %v", room)
	}
}

func TestBracketRises(t *testing.T) { // P1.15
	for _, l := range tables {
		last := int64(0)
		for _, x := range incomes() {
			got := money.Bracket(l, cents(x))
			if got.Kind != api.Cents || got.Num < last {
				t.Fatalf("P1.15: %v at %d: %v, behind %d", l, x, got, last)
			}
			if x > 0 && got.Num > x {
				t.Fatalf("P1.15: %v at %d: %v is above it", l, x, got)
			}
			last = got.Num
		}
	}
}

func TestBracketCut(t *testing.T) { // P1.15
	for _, l := range tables {
		if len(l) == api.MaxBands {
			continue
		}
		for i, b := range l {
			next := int64(maxC)
			if i+1 < len(l) {
				next = l[i+1].From
			}
			for _, from := range []int64{b.From + 1, (b.From + next) / 2, next - 1} {
				if from <= b.From || from >= next {
					continue
				}
				cut := slices.Insert(slices.Clone(l), i+1, api.Band{From: from, Rate: b.Rate})
				for _, x := range incomes() {
					same(t, "P1.15", money.Bracket(cut, cents(x)), money.Bracket(l, cents(x)))
				}
			}
		}
	}
}
