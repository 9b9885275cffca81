package money_test

import (
	"math"
	"testing"

	"levy/api"
	"levy/money"
)

func TestValid(t *testing.T) { // P1.1
	for _, k := range []struct {
		kind      int
		low, high int64
	}{
		{api.Blank, 0, 0}, {api.Cents, -9999999999999, 9999999999999}, {api.Count, -1000000000, 1000000000}, {api.Flag, 0, 1},
		{api.Day, 0, 109572}, {api.Choice, 0, 7}, {api.Fault, 1, 5},
	} {
		for _, n := range []int64{k.low, k.high, (k.low + k.high) / 2} {
			if !money.Valid(api.Value{Kind: k.kind, Num: n}) {
				t.Errorf("P1.1: kind %d, %d must be valid", k.kind, n)
			}
		}
		for _, n := range []int64{k.low - 1, k.high + 1, math.MinInt64, math.MaxInt64} {
			if money.Valid(api.Value{Kind: k.kind, Num: n}) {
				t.Errorf("P1.1: kind %d, %d must not be valid", k.kind, n)
			}
		}
	}
	for _, kind := range []int{-1, 7, math.MinInt, math.MaxInt} {
		for _, n := range []int64{0, 1} {
			if money.Valid(api.Value{Kind: kind, Num: n}) {
				t.Errorf("P1.1: kind %d, %d must not be valid", kind, n)
			}
		}
	}
}

func TestWhatIsNotValidIsWrong(t *testing.T) { // P1.1
	for _, bad := range edges() {
		if money.Valid(bad) {
			continue
		}
		for _, c := range append(calls(), spoilt()...) {
			for at := range c.arity {
				l := []api.Value{cents(1), cents(1), cents(1)}
				l[at] = bad
				if got := c.does(l[:c.arity]); got != fault(api.Wrong) {
					t.Errorf("P1.1: %s of %v: %v", c.name, l[:c.arity], got)
				}
			}
		}
	}
}

// firstMishap: what P1.2 says of the operands, ahead of their kinds.
func firstMishap(l []api.Value) (api.Value, bool) {
	for _, v := range l {
		if !money.Valid(v) {
			return fault(api.Wrong), true
		}
		if v.Kind == api.Fault {
			return v, true
		}
		if v.Kind == api.Blank {
			return fault(api.Needed), true
		}
	}
	return blank, false
}

func TestOperandsInOrder(t *testing.T) { // P1.2
	of := []api.Value{blank, fault(api.Over), fault(api.Zero), fault(api.Needed), fault(api.Range), fault(api.Wrong),
		cents(3), count(2), flag(1), day(4), choice(1), cents(maxC + 1), {Kind: 7}}
	for _, c := range append(calls(), spoilt()...) {
		for l := range tuples(c.arity, of) {
			got := c.does(l)
			want, is := firstMishap(l)
			kinds := make([]int, len(l))
			for i, v := range l {
				kinds[i] = v.Kind
			}
			switch {
			case is && got != want:
				t.Errorf("P1.2: %s of %v: %v, want %v", c.name, l, got, want)
			case !is && !c.takes(kinds) && got != fault(api.Wrong):
				t.Errorf("P1.2: %s of %v: %v, want Fault Wrong", c.name, l, got)
			case !is && c.takes(kinds) && got.Kind == api.Fault:
				t.Errorf("P1.2: %s of %v: %v, want no fault", c.name, l, got)
			}
		}
	}
	same(t, "P1.2", money.Add(blank, fault(api.Over)), fault(api.Needed))
	same(t, "P1.2", money.Add(fault(api.Over), blank), fault(api.Over))
	same(t, "P1.2", money.Clamp(flag(1), cents(1), blank), fault(api.Needed))
	same(t, "P1.2", money.Scale(blank, 1, 0, 0), fault(api.Needed))
	same(t, "P1.2", money.Bracket(nil, fault(api.Range)), fault(api.Range))
}

func TestEveryAnswerIsValid(t *testing.T) { // P1.13
	of := edges()
	few := []api.Value{blank, {Num: 1}, cents(-maxC - 1), cents(-maxC), cents(-1), cents(0), cents(maxC), count(-maxN), count(0), count(1), count(maxN), count(maxN + 1),
		flag(0), flag(1), flag(2), day(0), day(api.MaxDay), day(-1), choice(7), choice(8), fault(0), fault(1), fault(5), fault(6), {Kind: 7}, {Kind: -1}}
	for _, c := range append(calls(), spoilt()...) {
		l := of
		if c.arity == 3 {
			l = few
		}
		for operands := range tuples(c.arity, l) {
			if got := c.does(operands); !money.Valid(got) || got.Kind == api.Blank {
				t.Fatalf("P1.13: %s of %v: %v", c.name, operands, got)
			}
		}
	}
	wild := []int64{math.MinInt64, -maxC, -maxN - 1, -maxN, -1, 0, 1, 2, maxN, maxN + 1, maxC, maxC + 1, math.MaxInt64}
	for _, a := range of {
		for _, x := range wild {
			for _, mode := range append(noModes, modes...) {
				for _, y := range wild {
					if got := money.Scale(a, x, y, mode); !money.Valid(got) || got.Kind == api.Blank {
						t.Fatalf("P1.13: Scale of %v, %d, %d, %d: %v", a, x, y, mode, got)
					}
				}
				if got := money.Round(a, x, mode); !money.Valid(got) || got.Kind == api.Blank {
					t.Fatalf("P1.13: Round of %v, %d, %d: %v", a, x, mode, got)
				}
			}
			for _, y := range wild {
				l := []api.Band{{From: 0, Rate: 1}, {From: x, Rate: y}}
				if got := money.Bracket(l, a); !money.Valid(got) || got.Kind == api.Blank {
					t.Fatalf("P1.13: Bracket of %v, %v: %v", l, a, got)
				}
			}
		}
	}
}
