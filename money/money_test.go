package money_test

import (
	"math"
	"math/big"
	"testing"

	"levy/api"
	"levy/money"
)

func TestAddSub(t *testing.T) { // P1.3
	for _, x := range []struct{ a, b, sum, less api.Value }{
		{cents(2), cents(3), cents(5), cents(-1)},
		{count(2), count(3), count(5), count(-1)},
		{cents(maxC), cents(0), cents(maxC), cents(maxC)},
		{cents(maxC), cents(1), fault(api.Over), cents(maxC - 1)},
		{cents(maxC - 1), cents(1), cents(maxC), cents(maxC - 2)},
		{cents(-maxC), cents(-1), fault(api.Over), cents(-maxC + 1)},
		{cents(-maxC), cents(1), cents(-maxC + 1), fault(api.Over)},
		{cents(maxC), cents(maxC), fault(api.Over), cents(0)},
		{cents(-maxC), cents(maxC), cents(0), fault(api.Over)},
		{count(maxN), count(1), fault(api.Over), count(maxN - 1)},
		{count(maxN - 1), count(1), count(maxN), count(maxN - 2)},
		{count(-maxN), count(1), count(-maxN + 1), fault(api.Over)},
		{count(-maxN + 1), count(1), count(-maxN + 2), count(-maxN)},
		{cents(1), count(1), fault(api.Wrong), fault(api.Wrong)},
		{count(1), cents(1), fault(api.Wrong), fault(api.Wrong)},
		{day(1), day(1), fault(api.Wrong), fault(api.Wrong)},
		{flag(0), flag(0), fault(api.Wrong), fault(api.Wrong)},
		{choice(0), choice(0), fault(api.Wrong), fault(api.Wrong)},
		{count(1), fault(api.Zero), fault(api.Zero), fault(api.Zero)},
		{blank, count(1), fault(api.Needed), fault(api.Needed)},
	} {
		same(t, "P1.3 Add", money.Add(x.a, x.b), x.sum)
		same(t, "P1.3 Sub", money.Sub(x.a, x.b), x.less)
	}
}

func TestNegAbs(t *testing.T) { // P1.3
	for _, x := range []struct{ a, neg, abs api.Value }{
		{cents(5), cents(-5), cents(5)}, {cents(-5), cents(5), cents(5)}, {cents(0), cents(0), cents(0)},
		{cents(maxC), cents(-maxC), cents(maxC)}, {cents(-maxC), cents(maxC), cents(maxC)},
		{count(maxN), count(-maxN), count(maxN)}, {count(-maxN), count(maxN), count(maxN)},
		{cents(-maxC - 1), fault(api.Wrong), fault(api.Wrong)}, {cents(math.MinInt64), fault(api.Wrong), fault(api.Wrong)},
		{flag(1), fault(api.Wrong), fault(api.Wrong)}, {day(1), fault(api.Wrong), fault(api.Wrong)}, {choice(1), fault(api.Wrong), fault(api.Wrong)},
		{blank, fault(api.Needed), fault(api.Needed)}, {fault(api.Range), fault(api.Range), fault(api.Range)},
	} {
		same(t, "P1.3 Neg", money.Neg(x.a), x.neg)
		same(t, "P1.3 Abs", money.Abs(x.a), x.abs)
	}
}

func TestMinMax(t *testing.T) { // P1.4
	for _, x := range []struct{ a, b, least, most api.Value }{
		{cents(-maxC), cents(maxC), cents(-maxC), cents(maxC)}, {cents(5), cents(-9), cents(-9), cents(5)}, {cents(4), cents(4), cents(4), cents(4)},
		{count(-maxN), count(maxN), count(-maxN), count(maxN)}, {count(2), count(1), count(1), count(2)},
		{day(0), day(api.MaxDay), day(0), day(api.MaxDay)}, {day(3), day(2), day(2), day(3)},
		{day(3), count(2), fault(api.Wrong), fault(api.Wrong)}, {cents(3), count(2), fault(api.Wrong), fault(api.Wrong)},
		{flag(1), flag(0), fault(api.Wrong), fault(api.Wrong)}, {choice(1), choice(0), fault(api.Wrong), fault(api.Wrong)},
		{day(api.MaxDay + 1), day(0), fault(api.Wrong), fault(api.Wrong)},
	} {
		same(t, "P1.4 Min", money.Min(x.a, x.b), x.least)
		same(t, "P1.4 Max", money.Max(x.a, x.b), x.most)
	}
}

func TestClamp(t *testing.T) { // P1.5
	for _, x := range []struct{ x, low, high, want int64 }{
		{5, 1, 9, 5}, {0, 1, 9, 1}, {1, 1, 9, 1}, {9, 1, 9, 9}, {10, 1, 9, 9}, {4, 4, 4, 4},
		{5, 9, 1, 9}, {8, 9, 1, 9}, {9, 9, 1, 1}, {10, 9, 1, 1}, {0, 9, 1, 9},
	} {
		same(t, "P1.5", money.Clamp(cents(x.x), cents(x.low), cents(x.high)), cents(x.want))
		same(t, "P1.5", money.Clamp(count(x.x), count(x.low), count(x.high)), count(x.want))
		same(t, "P1.5", money.Clamp(day(x.x), day(x.low), day(x.high)), day(x.want))
	}
	same(t, "P1.5", money.Clamp(cents(-maxC), cents(-5), cents(maxC)), cents(-5))
	for _, l := range [][3]api.Value{{cents(1), cents(1), count(1)}, {cents(1), count(1), cents(1)}, {count(1), cents(1), cents(1)},
		{flag(1), flag(0), flag(1)}, {choice(1), choice(0), choice(1)}, {cents(0), cents(1), cents(maxC + 1)}} {
		same(t, "P1.5", money.Clamp(l[0], l[1], l[2]), fault(api.Wrong))
	}
	same(t, "P1.5", money.Clamp(cents(0), cents(1), blank), fault(api.Needed))
}

func TestScale(t *testing.T) { // P1.6
	for _, x := range []struct{ cents, num, den int64 }{
		{105, 1, 10}, {-105, 1, 10}, {1, 1, 1}, {0, 0, 1}, {7, 0, 3},
		{maxC, maxN, maxN}, {maxC, maxN, 1}, {maxC, -maxN, 1}, {-maxC, -maxN, 1}, {maxC, maxN, maxN - 1}, {maxC, maxN - 1, maxN},
		{maxC, 1, 1}, {-maxC, 1, 1}, {maxC, 2, 1}, {maxC, 3, 2}, {maxC, -1, 1}, {1, 1, maxN}, {-1, 1, maxN}, {9999, maxN, 1}, {10000, maxN, 1},
	} {
		for _, mode := range modes {
			want := asCents(rounded(product(x.cents, x.num), big.NewInt(x.den), mode))
			same(t, "P1.6", money.Scale(cents(x.cents), x.num, x.den, mode), want)
		}
	}
	for _, x := range [][2]int64{{maxN + 1, 1}, {-maxN - 1, 1}, {1, 0}, {1, -1}, {1, maxN + 1}, {math.MinInt64, 1}, {math.MaxInt64, 1}, {1, math.MinInt64}, {1, math.MaxInt64}, {0, 0}} {
		same(t, "P1.6", money.Scale(cents(1), x[0], x[1], api.Down), fault(api.Wrong))
	}
	for _, mode := range noModes {
		same(t, "P1.6", money.Scale(cents(1), 1, 1, mode), fault(api.Wrong))
	}
	for _, v := range []api.Value{count(1), flag(1), day(1), choice(1)} {
		same(t, "P1.6", money.Scale(v, 1, 1, api.Down), fault(api.Wrong))
	}
	same(t, "P1.6", money.Scale(blank, maxN+1, 0, 0), fault(api.Needed))
}

func TestScaleAtTheBound(t *testing.T) { // P1.2, P1.6: what is rounded is held against the bound, not what is exact
	over := fault(api.Over)
	for i, mode := range modes { // 327868852459 * 61 / 2 is half a cent beyond the bound
		above := [...]api.Value{cents(maxC), over, cents(maxC), over, over}
		below := [...]api.Value{over, cents(-maxC), cents(-maxC), cents(-maxC), over}
		same(t, "P1.6", money.Scale(cents(327868852459), 61, 2, mode), above[i])
		same(t, "P1.6", money.Scale(cents(-327868852459), 61, 2, mode), below[i])
		same(t, "P1.6", money.Scale(cents(327868852459), -61, 2, mode), below[i])
		same(t, "P1.6", money.Scale(cents(-327868852459), -61, 2, mode), above[i])
		same(t, "P1.6", money.Scale(cents(6666666666666), 3, 2, mode), cents(maxC))
		same(t, "P1.6", money.Scale(cents(6666666666668), 3, 2, mode), over)
	}
}

func TestRounding(t *testing.T) { // P1.10
	for _, x := range []struct {
		tenths int64
		want   [5]int64
	}{
		{100, [5]int64{10, 10, 10, 10, 10}}, {-100, [5]int64{-10, -10, -10, -10, -10}}, {0, [5]int64{}},
		{101, [5]int64{10, 11, 10, 10, 10}}, {-101, [5]int64{-11, -10, -10, -10, -10}},
		{104, [5]int64{10, 11, 10, 10, 10}}, {-104, [5]int64{-11, -10, -10, -10, -10}},
		{105, [5]int64{10, 11, 10, 11, 10}}, {-105, [5]int64{-11, -10, -10, -10, -10}},
		{106, [5]int64{10, 11, 10, 11, 11}}, {-106, [5]int64{-11, -10, -10, -11, -11}},
		{115, [5]int64{11, 12, 11, 12, 12}}, {-115, [5]int64{-12, -11, -11, -11, -12}},
		{5, [5]int64{0, 1, 0, 1, 0}}, {-5, [5]int64{-1, 0, 0, 0, 0}}, {15, [5]int64{1, 2, 1, 2, 2}}, {-15, [5]int64{-2, -1, -1, -1, -2}},
	} {
		for i, mode := range modes {
			same(t, "P1.10 Scale", money.Scale(cents(x.tenths), 1, 10, mode), cents(x.want[i]))
			same(t, "P1.10 Split", money.Split(cents(x.tenths), count(10), mode), cents(x.want[i]))
			same(t, "P1.10 Round", money.Round(cents(x.tenths), 10, mode), cents(10*x.want[i]))
		}
	}
}

func TestRoundingSpread(t *testing.T) { // P1.6, P1.7, P1.8, P1.10, against big numbers
	as, bs := spread(400, maxC), spread(400, maxN)
	bs = append(bs, 1, 2, -2, 3, 10, maxN, -maxN)
	for i, a := range append(as, maxC, -maxC, 1, -1) {
		for j := range 40 {
			num, den := bs[(i+j)%len(bs)], bs[(7*i+3*j)%len(bs)]
			for _, mode := range modes {
				if den != 0 {
					same(t, "P1.7", money.Split(cents(a), count(den), mode), asCents(rounded(big.NewInt(a), big.NewInt(den), mode)))
				}
				if den > 0 {
					same(t, "P1.6", money.Scale(cents(a), num, den, mode), asCents(rounded(product(a, num), big.NewInt(den), mode)))
				}
				if unit := as[(i+j)%len(as)]; unit > 0 {
					whole := rounded(big.NewInt(a), big.NewInt(unit), mode)
					same(t, "P1.8", money.Round(cents(a), unit, mode), asCents(whole.Mul(whole, big.NewInt(unit))))
				}
			}
		}
	}
}

func TestTimes(t *testing.T) { // P1.7
	for _, x := range []struct{ a, n, want api.Value }{
		{cents(-3), count(7), cents(-21)}, {cents(3), count(-7), cents(-21)}, {cents(-3), count(-7), cents(21)}, {cents(maxC), count(0), cents(0)},
		{cents(maxC), count(1), cents(maxC)}, {cents(maxC), count(-1), cents(-maxC)}, {cents(maxC), count(2), fault(api.Over)},
		{cents(3333333333333), count(3), cents(maxC)}, {cents(3333333333334), count(3), fault(api.Over)}, {cents(3333333333334), count(-3), fault(api.Over)},
		{cents(9999), count(maxN), cents(9999000000000)}, {cents(10000), count(maxN), fault(api.Over)},
		{cents(maxC), count(maxN), fault(api.Over)}, {cents(-maxC), count(-maxN), fault(api.Over)},
		{count(7), cents(3), fault(api.Wrong)}, {cents(7), cents(3), fault(api.Wrong)}, {count(7), count(3), fault(api.Wrong)},
		{cents(7), flag(1), fault(api.Wrong)}, {day(7), count(1), fault(api.Wrong)}, {cents(1), count(maxN + 1), fault(api.Wrong)},
		{count(1), blank, fault(api.Needed)}, {cents(1), fault(api.Range), fault(api.Range)},
	} {
		same(t, "P1.7 Times", money.Times(x.a, x.n), x.want)
	}
	// 2^64 + 290448384 and 2^64: the low word of 64 bits alone would be within the bound.
	same(t, "P1.7 Times", money.Times(cents(18446744074), count(maxN)), fault(api.Over))
	same(t, "P1.7 Times", money.Times(cents(1<<41), count(1<<23)), fault(api.Over))
}

func TestSplit(t *testing.T) { // P1.7
	same(t, "P1.7", money.Split(cents(100), count(3), api.Down), cents(33))
	same(t, "P1.7", money.Split(cents(100), count(-3), api.Down), cents(-34))
	same(t, "P1.7", money.Split(cents(-100), count(-3), api.Down), cents(33))
	same(t, "P1.7", money.Split(cents(-100), count(3), api.Inward), cents(-33))
	same(t, "P1.7", money.Split(cents(100), count(-3), api.Inward), cents(-33))
	same(t, "P1.7", money.Split(cents(1), count(-2), api.HalfUp), cents(0))
	same(t, "P1.7", money.Split(cents(3), count(-2), api.HalfEven), cents(-2))
	for _, mode := range modes {
		same(t, "P1.7", money.Split(cents(1), count(0), mode), fault(api.Zero))
		same(t, "P1.7", money.Split(cents(0), count(0), mode), fault(api.Zero))
		same(t, "P1.7", money.Split(cents(maxC), count(-1), mode), cents(-maxC))
	}
	for _, mode := range noModes {
		same(t, "P1.7", money.Split(cents(1), count(0), mode), fault(api.Wrong))
		same(t, "P1.7", money.Split(cents(1), count(1), mode), fault(api.Wrong))
	}
	same(t, "P1.7", money.Split(count(1), count(0), api.Up), fault(api.Wrong))
	same(t, "P1.7", money.Split(cents(1), cents(0), api.Up), fault(api.Wrong))
	same(t, "P1.7", money.Split(count(1), cents(1), api.Up), fault(api.Wrong))
}

func TestRound(t *testing.T) { // P1.8
	for _, x := range []struct {
		cents, unit int64
		mode        int
		want        api.Value
	}{
		{149, 100, api.HalfUp, cents(100)}, {150, 100, api.HalfEven, cents(200)}, {250, 100, api.HalfEven, cents(200)}, {-150, 100, api.HalfUp, cents(-100)},
		{-150, 100, api.HalfEven, cents(-200)}, {7, 1, api.Up, cents(7)}, {0, maxC, api.Up, cents(0)},
		{1, maxC, api.Up, cents(maxC)}, {-1, maxC, api.Down, cents(-maxC)}, {maxC, maxC, api.Down, cents(maxC)}, {-1, maxC, api.Up, cents(0)},
		{maxC, 1000, api.Up, fault(api.Over)}, {-maxC, 1000, api.Down, fault(api.Over)}, {maxC, 1000, api.Down, cents(9999999999000)},
		{maxC, maxC - 1, api.Up, fault(api.Over)}, {maxC, 1000, api.HalfUp, fault(api.Over)}, {-maxC, 1000, api.HalfEven, fault(api.Over)},
	} {
		same(t, "P1.8", money.Round(cents(x.cents), x.unit, x.mode), x.want)
	}
	for _, unit := range []int64{0, -1, maxC + 1, math.MinInt64, math.MaxInt64} {
		same(t, "P1.8", money.Round(cents(5), unit, api.Down), fault(api.Wrong))
	}
	for _, mode := range noModes {
		same(t, "P1.8", money.Round(cents(5), 1, mode), fault(api.Wrong))
	}
	for _, v := range []api.Value{count(1), flag(1), day(1), choice(1)} {
		same(t, "P1.8", money.Round(v, 1, api.Down), fault(api.Wrong))
	}
}

func TestCompare(t *testing.T) { // P1.9
	ops := []int{api.OpEq, api.OpNe, api.OpLt, api.OpLe, api.OpGt, api.OpGe}
	truths := map[int][6]int64{-1: {0, 1, 1, 1, 0, 0}, 0: {1, 0, 0, 1, 0, 1}, 1: {0, 1, 0, 0, 1, 1}}
	for _, make := range []func(int64) api.Value{cents, count, day, flag, choice} {
		for order, l := range truths {
			for i, op := range ops {
				a, b := make(int64(max(order, 0))), make(int64(max(-order, 0)))
				want := flag(l[i])
				if k := a.Kind; op >= api.OpLt && (k == api.Flag || k == api.Choice) {
					want = fault(api.Wrong)
				}
				same(t, "P1.9", money.Compare(op, a, b), want)
			}
		}
	}
	same(t, "P1.9", money.Compare(api.OpLt, cents(-maxC), cents(maxC)), flag(1))
	same(t, "P1.9", money.Compare(api.OpGe, count(-maxN), count(maxN)), flag(0))
	same(t, "P1.9", money.Compare(api.OpNe, day(0), day(api.MaxDay)), flag(1))
	for _, op := range ops {
		same(t, "P1.9", money.Compare(op, cents(1), count(1)), fault(api.Wrong))
		same(t, "P1.9", money.Compare(op, flag(1), choice(1)), fault(api.Wrong))
		same(t, "P1.9", money.Compare(op, cents(1), blank), fault(api.Needed))
		same(t, "P1.9", money.Compare(op, blank, blank), fault(api.Needed))
		same(t, "P1.9", money.Compare(op, fault(api.Over), fault(api.Over)), fault(api.Over))
	}
	for _, op := range []int{0, -1, api.OpBracket, api.OpAnd, api.OpDays + 1, math.MinInt, math.MaxInt} {
		same(t, "P1.9", money.Compare(op, cents(1), cents(1)), fault(api.Wrong))
		same(t, "P1.9", money.Compare(op, flag(1), flag(1)), fault(api.Wrong))
		same(t, "P1.9", money.Compare(op, cents(1), blank), fault(api.Needed))
	}
}
