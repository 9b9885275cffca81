package curve_test

import (
	"math"
	"math/rand"
	"slices"
	"testing"

	"levy/api"
	"levy/curve"
)

// asked: a function of x cents that keeps at which places it was asked.
func asked(at *[]int64) func(int64) api.Value {
	return func(x int64) api.Value {
		*at = append(*at, x)
		return api.Value{Kind: api.Cents, Num: x}
	}
}

func TestP17_3Sample(t *testing.T) {
	l, e := curve.Sample(lineOf(3, 1), -10, 5, 5)
	points(t, "five points", l, e, pt(-10, -30), pt(-5, -15), pt(0, 0), pt(5, 15), pt(10, 30))
	l, e = curve.Sample(constant(api.Count, 7), 12, 1, 1)
	points(t, "one point", l, e, pt(12, 7))
	l, e = curve.Sample(constant(api.Count, api.MaxCents+5), 12, 1, 1)
	points(t, "a number above the bound of cents", l, e, pt(12, whole(api.MaxCents+5)))
}

func TestP17_3EachPlaceOnceRising(t *testing.T) {
	for _, c := range []struct {
		from, step int64
		n          int
	}{{0, 1, 64}, {-100, 7, 30}, {api.MaxCents, math.MaxInt64, 1}, {-api.MaxCents, api.MaxCents, 3}, {-api.MaxCents, 2 * api.MaxCents, 2}} {
		var at, want []int64
		l, e := curve.Sample(asked(&at), c.from, c.step, c.n)
		for x := c.from; len(want) < c.n; x += c.step {
			want = append(want, x)
		}
		if !slices.Equal(at, want) || e != api.OK || len(l) != c.n {
			t.Errorf("Sample(%d, %d, %d): asked at %v, want %v; %d points, error %d", c.from, c.step, c.n, at, want, len(l), e)
		}
	}
}

func TestP17_3KindsThatAreLeftOut(t *testing.T) {
	kinds := []int{api.Blank, api.Cents, api.Count, api.Flag, api.Day, api.Choice, api.Fault, -1, 99, math.MaxInt, math.MinInt}
	l, e := curve.Sample(func(x int64) api.Value { return api.Value{Kind: kinds[x], Num: 4} }, 0, 1, len(kinds))
	points(t, "all kinds", l, e, pt(api.Cents, 4), pt(api.Count, 4))
	for _, k := range kinds {
		l, e := curve.Sample(constant(k, 1), 0, 1, 3)
		if k == api.Cents || k == api.Count {
			points(t, "a kind", l, e, pt(0, 1), pt(1, 1), pt(2, 1))
		} else {
			points(t, "a kind", l, e)
		}
	}
}

func TestP17_3Errors(t *testing.T) {
	const bound = api.MaxCents
	for _, c := range []struct {
		from, step int64
		n          int
		want       api.Errno
	}{
		{0, 1, 0, api.ErrCurveCount}, {0, 1, 65, api.ErrCurveCount}, {0, 1, -1, api.ErrCurveCount},
		{0, 1, math.MaxInt, api.ErrCurveCount}, {0, 1, math.MinInt, api.ErrCurveCount},
		{0, 0, 65, api.ErrCurveCount}, {bound + 1, -1, 0, api.ErrCurveCount},
		{0, 0, 1, api.ErrCurveStep}, {0, -1, 1, api.ErrCurveStep}, {0, math.MinInt64, 5, api.ErrCurveStep},
		{bound, -1, 2, api.ErrCurveStep}, {bound, 0, 2, api.ErrCurveStep},
		{bound + 1, 1, 1, api.ErrCurveStep}, {-bound - 1, 1, 1, api.ErrCurveStep}, {-bound - 1, 1, 2, api.ErrCurveStep},
		{math.MaxInt64, 1, 1, api.ErrCurveStep}, {math.MinInt64, 1, 1, api.ErrCurveStep}, {math.MinInt64, math.MaxInt64, 2, api.ErrCurveStep},
		{bound, 1, 2, api.ErrCurveStep}, {bound - 62, 1, 64, api.ErrCurveStep}, {-bound, 2*bound + 1, 2, api.ErrCurveStep},
		{-bound, bound + 1, 3, api.ErrCurveStep}, {0, bound/63 + 1, 64, api.ErrCurveStep},
		{0, math.MaxInt64, 2, api.ErrCurveStep}, {0, math.MaxInt64, 64, api.ErrCurveStep},
		{0, 1 << 62, 5, api.ErrCurveStep}, {0, 1 << 61, 9, api.ErrCurveStep}, {0, 1<<63/3 + 1, 4, api.ErrCurveStep}, // products that go round, to about 0
	} {
		var at []int64
		l, e := curve.Sample(asked(&at), c.from, c.step, c.n)
		noPoints(t, "an error", l, e, c.want)
		if len(at) != 0 {
			t.Errorf("Sample(%d, %d, %d): asked at %v", c.from, c.step, c.n, at)
		}
	}
}

func TestP17_3AtTheBounds(t *testing.T) {
	const bound = api.MaxCents
	for _, c := range []struct {
		from, step int64
		n          int
	}{{bound, 1, 1}, {-bound, 1, 1}, {bound, math.MaxInt64, 1}, {bound - 1, 1, 2}, {bound - 63, 1, 64}, {-bound, 2 * bound, 2}, {-bound, bound, 3}, {0, bound / 63, 64}, {-bound, 2 * bound / 63, 64}} {
		if l, e := curve.Sample(constant(api.Cents, 1), c.from, c.step, c.n); e != api.OK || len(l) != c.n || !ordered(l) {
			t.Errorf("Sample(%d, %d, %d): %d points, error %d", c.from, c.step, c.n, len(l), e)
		}
	}
}

// numberOf: [n], as Sample tells it.
func numberOf(t *testing.T, n int64) float32 {
	t.Helper()
	l, e := curve.Sample(constant(api.Cents, n), 0, 1, 1)
	if len(l) != 1 || e != api.OK {
		t.Fatalf("[%d]: %v, error %d", n, l, e)
	}
	return l[0].Y
}

// Whole numbers are rounded once, to the nearest, halves to the even one.
func TestP17_1WholeNumbers(t *testing.T) {
	for n, want := range map[int64]float32{
		0: 0, 1: 1, -1: -1, 16777215: 16777215, 16777216: 16777216, -16777216: -16777216,
		16777217: 16777216, 16777219: 16777220, -16777217: -16777216, -16777219: -16777220,
		33554434: 33554432, 33554435: 33554436, 33554438: 33554440, 9999999999999: 9999999827968, -9999999999999: -9999999827968,
		1<<60 + 1<<36: 1 << 60, 1<<60 + 3<<36: 1<<60 + 1<<38, // halves
		1<<60 + 1<<36 + 1: 1<<60 + 1<<37, 1<<60 + 3<<36 - 1: 1<<60 + 1<<37, // not quite: halves again, if they are made float64 first
		math.MaxInt64: 1 << 63, math.MinInt64: -1 << 63,
	} {
		if y := numberOf(t, n); y != want {
			t.Errorf("[%d]: %v, want %v", n, y, want)
		}
		if y := curve.Rate([]api.Point{pt(n, 1)}); n != 0 && (len(y) != 1 || y[0].Y != 1/want) {
			t.Errorf("1 / [%d]: %v, want %v", n, y, 1/want)
		}
	}
}

func TestP17_1WholeNumbersAsTheModel(t *testing.T) {
	r := rand.New(rand.NewSource(1701))
	for range 20000 {
		n := int64(r.Uint64()) >> r.Intn(64)
		if y := numberOf(t, n); y != whole(n) {
			t.Fatalf("[%d]: %v, want %v", n, y, whole(n))
		}
	}
}
