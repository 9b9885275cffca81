package money_test

import (
	"math/big"
	"testing"

	"levy/api"
	"levy/money"
)

func TestLawsOfSums(t *testing.T) { // P1.14
	for _, k := range []struct {
		make func(int64) api.Value
		most int64
	}{{cents, maxC}, {count, maxN}} {
		l := append(spread(150, k.most), 0, 1, -1, k.most, -k.most, k.most-1, 1-k.most, k.most/2, k.most/2+1)
		for _, a := range l {
			for _, b := range l {
				x, y := k.make(a), k.make(b)
				sum := money.Add(x, y)
				same(t, "P1.14", money.Add(y, x), sum)
				back := money.Sub(sum, y)
				if sum.Kind != api.Fault && back != x {
					t.Errorf("P1.14: %v + %v - %v: %v", x, y, y, back)
				}
				if (sum.Kind == api.Fault) != (a+b > k.most || a+b < -k.most) {
					t.Errorf("P1.14: %v + %v: %v", x, y, sum)
				}
			}
		}
	}
}

func TestLawsOfScale(t *testing.T) { // P1.14
	for _, a := range append(spread(150, maxC), maxC, -maxC, 1, -1) {
		for _, r := range [][2]int64{{1, 2}, {-1, 2}, {1, 3}, {2, 3}, {7, 10}, {-7, 1000}, {1, 1}, {0, 9}, {999, 1000}, {1, 100000}, {99999, 100000}} {
			for _, mode := range modes {
				got := money.Scale(cents(a), r[0], r[1], mode)
				for _, k := range []int64{2, 3, 10, 9999, 10000} {
					same(t, "P1.14", money.Scale(cents(a), k*r[0], k*r[1], mode), got)
				}
				exact := new(big.Rat).SetFrac(product(a, r[0]), big.NewInt(r[1]))
				away := new(big.Rat).Sub(new(big.Rat).SetInt64(got.Num), exact)
				away.Abs(away)
				half := mode == api.HalfUp || mode == api.HalfEven
				if got.Kind != api.Cents || away.Cmp(big.NewRat(1, 1)) >= 0 || half && away.Cmp(big.NewRat(1, 2)) > 0 {
					t.Errorf("P1.14: %d * %d / %d, mode %d: %v", a, r[0], r[1], mode, got)
				}
			}
		}
	}
}
