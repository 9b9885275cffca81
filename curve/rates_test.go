package curve_test

import (
	"fmt"
	"math"
	"math/rand"
	"slices"
	"testing"

	"levy/api"
	"levy/curve"
)

// outOfOrder: lists that aren't in order, each for one reason.
func outOfOrder() map[string][]api.Point {
	return map[string][]api.Point{
		"twice":                     places(3, 3),
		"twice, far behind":         places(-1, 0, 3, 4, 4, 5),
		"falling":                   places(3, 2),
		"falling at the end":        places(1, 2, 3, 2),
		"falling at the beginning":  places(5, 1, 7),
		"above the bound":           places(api.MaxCents + 1),
		"above the bound, behind":   places(0, api.MaxCents+1),
		"below the bound":           places(-api.MaxCents - 1),
		"below the bound, ahead":    places(-api.MaxCents-1, 0),
		"the least number":          places(math.MinInt64),
		"the greatest number":       places(math.MaxInt64),
		"from the least on":         places(math.MinInt64, math.MaxInt64),
		"an infinity":               heights(inf),
		"an infinity, behind":       heights(0, 1, inf),
		"an infinity below":         heights(-inf),
		"an infinity below, inside": heights(0, -inf, 3),
		"not a number":              heights(nan),
		"not a number, ahead":       heights(nan, 1, 2),
		"not a number, behind":      heights(1, 2, nan),
	}
}

func TestP17_2NotInOrder(t *testing.T) {
	for what, l := range outOfOrder() {
		got, e := curve.Slope(l)
		noPoints(t, "Slope: "+what, got, e, api.ErrCurveOrder)
		got, e = curve.Smooth(l, 3)
		noPoints(t, "Smooth: "+what, got, e, api.ErrCurveOrder)
		noHeight(t, what, l, l[0].X, api.ErrCurveOrder)
		noHeight(t, what, l, math.MaxInt64, api.ErrCurveOrder)
		drawsNothing(t, what, l, 9, 9, api.ErrCurveOrder)
	}
}

func TestP17_2InOrder(t *testing.T) {
	for what, l := range map[string][]api.Point{
		"none": nil, "one": places(0), "side by side": places(-1, 0, 1, 2), "the least place": places(-api.MaxCents), "the greatest place": places(api.MaxCents),
		"from end to end": places(-api.MaxCents, api.MaxCents), "the greatest height": heights(most, most), "the least height": heights(-most, -most),
		"tiny": heights(tiny, -tiny, 0, minus), "falling heights": heights(3, 2, 1), "equal heights": heights(1, 1, 1),
	} {
		if got, e := curve.Slope(l); e != api.OK || len(got) != max(len(l)-1, 0) {
			t.Errorf("Slope: %s: %v, error %d", what, got, e)
		}
		got, e := curve.Smooth(l, 1)
		points(t, "Smooth: "+what, got, e, l...)
		if got, e := curve.Draw(l, 9, 9); e != api.OK || len(got) != 9 {
			t.Errorf("Draw: %s: %q, error %d", what, got, e)
		}
		if len(l) > 0 {
			height(t, what, l, l[0].X, l[0].Y)
		}
	}
}

func TestP17_4Rate(t *testing.T) {
	for what, c := range map[string][2][]api.Point{
		"none":                 {nil, nil},
		"halves":               {{pt(200, 100), pt(400, 200)}, {pt(200, 0.5), pt(400, 0.5)}},
		"no order, twice":      {{pt(5, 10), pt(-5, 10), pt(5, 10), pt(2, -3)}, {pt(5, 2), pt(-5, -2), pt(5, 2), pt(2, -1.5)}},
		"at 0":                 {{pt(0, 1), pt(1, 1), pt(0, 0)}, {pt(1, 1)}},
		"not finite":           {{pt(1, inf), pt(2, -inf), pt(3, nan), pt(4, most)}, {pt(4, most/4)}},
		"height 0":             {{pt(7, 0), pt(8, minus)}, {pt(7, 0), pt(8, 0)}},
		"beyond cents":         {{pt(1<<40, 1), pt(math.MaxInt64, 1<<63), pt(math.MinInt64, 1<<62)}, {pt(1<<40, 1.0/(1<<40)), pt(math.MaxInt64, 1), pt(math.MinInt64, -0.5)}},
		"less than can be":     {{pt(3, tiny), pt(2, tiny), pt(-1, tiny)}, {pt(3, 0), pt(2, 0), pt(-1, -tiny)}},
		"the place is rounded": {{pt(16777217, 16777216), pt(33554435, 33554436)}, {pt(16777217, 1), pt(33554435, 1)}},
		"a third":              {{pt(3, 1)}, {pt(3, math.Float32frombits(0x3EAAAAAB))}},
	} {
		points(t, what, curve.Rate(c[0]), api.OK, c[1]...)
	}
}

func TestP17_5Slope(t *testing.T) {
	for what, c := range map[string][2][]api.Point{
		"none":             {nil, nil},
		"one":              {heights(5), nil},
		"two":              {{pt(-4, 1), pt(4, 5)}, {pt(-4, 0.5)}},
		"up and down":      {{pt(0, 0), pt(2, 6), pt(3, 5), pt(7, 5)}, {pt(0, 3), pt(2, -1), pt(3, 0)}},
		"a third":          {{pt(0, 0), pt(3, 1)}, {pt(0, math.Float32frombits(0x3EAAAAAB))}},
		"from end to end":  {{pt(-api.MaxCents, 0), pt(api.MaxCents, 1)}, {pt(-api.MaxCents, 1/whole(2*api.MaxCents))}},
		"overflow":         {heights(-most, most, -most), heights(inf, -inf)},
		"no overflow":      {heights(-most/2, most/2), heights(most)},
		"rounded first":    {{pt(0, 0.5), pt(1, 1e8)}, {pt(0, 1e8)}},
		"the gap's number": {{pt(0, 0), pt(16777217, 16777216)}, {pt(0, 1)}},
	} {
		got, e := curve.Slope(c[0])
		points(t, what, got, e, c[1]...)
	}
	// the difference, 99999997, is rounded to 100000000; then the quotient is that of what is left: of the difference itself it would be 33333332
	got, e := curve.Slope([]api.Point{pt(0, 3), pt(3, 100000000)})
	points(t, "two steps", got, e, pt(0, 33333334))
}

func TestP17_6Smooth(t *testing.T) {
	l := []api.Point{pt(-9, 0), pt(0, 100), pt(1, 200), pt(50, 300), pt(51, 1000)}
	for window, want := range map[int][]float32{
		1:  {0, 100, 200, 300, 1000},
		3:  {50, 100, 200, 500, 650},
		5:  {100, 150, 320, 400, 500},
		7:  {150, 320, 320, 320, 400},
		9:  {320, 320, 320, 320, 320},
		15: {320, 320, 320, 320, 320},
	} {
		got, e := curve.Smooth(l, window)
		if !slices.Equal(ysOf(got), want) || e != api.OK {
			t.Errorf("window %d: %v, error %d, want %v", window, got, e, want)
		}
		for i, p := range got {
			if p.X != l[i].X {
				t.Errorf("window %d: place %d, want %d", window, p.X, l[i].X)
			}
		}
	}
	got, e := curve.Smooth(nil, 3)
	points(t, "none", got, e)
	got, e = curve.Smooth(heights(7), 15)
	points(t, "one", got, e, heights(7)...)
}

// Fifteen, and seven places on each side: the sixteenth point isn't looked at.
func TestP17_6TheWidestWindow(t *testing.T) {
	l := heights(slices.Repeat([]float32{0}, 30)...)
	l[15].Y = 15
	got, e := curve.Smooth(l, 15)
	want := heights(slices.Repeat([]float32{0}, 30)...)
	for i := 8; i <= 22; i++ {
		want[i].Y = 1
	}
	points(t, "one bump", got, e, want...)
}

// Heights are added up one by one, from the left.
func TestP17_6Steps(t *testing.T) {
	got, e := curve.Smooth(heights(16777216, 1, 1), 15)
	points(t, "small ones are lost", got, e, heights(16777216.0/3, 16777216.0/3, 16777216.0/3)...)
	got, e = curve.Smooth(heights(1, 1, 16777216), 5)
	points(t, "small ones first", got, e, heights(16777218.0/3, 16777218.0/3, 16777218.0/3)...)
	got, e = curve.Smooth(heights(16777215, 16777214, 16777213), 3)
	points(t, "sums that are rounded, though the mean is whole", got, e, heights(16777214, 16777213, 16777214)...)
	got, e = curve.Smooth(heights(most, most, -most), 3)
	points(t, "overflow on the way", got, e, heights(inf, inf, 0)...)
	got, e = curve.Smooth(heights(most, -most, most), 3)
	points(t, "no overflow", got, e, heights(0, most/3, 0)...)
	got, e = curve.Smooth(heights(-most, -most), 3)
	points(t, "overflow below", got, e, heights(-inf, -inf)...)
}

func TestP17_6Errors(t *testing.T) {
	for _, window := range []int{0, -1, -3, 2, 4, 14, 16, 17, 31, math.MaxInt, math.MinInt, math.MinInt + 1} {
		for _, l := range [][]api.Point{nil, heights(1, 2, 3), places(3, 3), heights(nan)} {
			got, e := curve.Smooth(l, window)
			noPoints(t, fmt.Sprint("window ", window), got, e, api.ErrCurveWindow)
		}
	}
	for window := 1; window <= 15; window += 2 {
		got, e := curve.Smooth(places(3, 3), window)
		noPoints(t, fmt.Sprint("window ", window), got, e, api.ErrCurveOrder)
		if got, e := curve.Smooth(heights(1, 2, 3), window); len(got) != 3 || e != api.OK {
			t.Errorf("window %d: %v, error %d", window, got, e)
		}
	}
}

func TestP17_7Jumps(t *testing.T) {
	jumps(t, "none", nil, 0)
	jumps(t, "one", heights(9), 0)
	jumps(t, "up and down", heights(0, 5, 5, 1), 4, 1, 3)
	jumps(t, "at the bound", heights(0, 5, 5, 1), 5, 1)
	jumps(t, "past it", heights(0, 5, 5, 1), math.Nextafter32(5, 6))
	jumps(t, "all", heights(0, 5, 5, 1), 0, 1, 2, 3)
	jumps(t, "all, by the other 0", heights(0, minus, 0), minus, 1, 2)
	jumps(t, "all, below 0", heights(0, 5, 5, 1), -7, 1, 2, 3)
	jumps(t, "all, by an infinity", heights(0, 5, 5, 1), -inf, 1, 2, 3)
	jumps(t, "none so far", heights(0, 5, 5, 1), inf)
	jumps(t, "not a number", heights(0, 5, 5, 1), nan)
	jumps(t, "no order", []api.Point{pt(9, 1), pt(9, 7), pt(math.MinInt64, 3), pt(math.MaxInt64, 3)}, 3, 1, 2)
	jumps(t, "infinities", heights(0, inf, inf, -inf, 5, nan, 5), inf, 1, 3, 4)
	jumps(t, "infinities, all", heights(0, inf, inf, -inf, 5, nan, 5), -inf, 1, 3, 4)
	jumps(t, "overflow", heights(-most, most, -most), inf, 1, 2)
	jumps(t, "in float32", heights(0.5, 1e8), 1e8, 1)
	jumps(t, "in float32", heights(4.5, 1e8), 1e8)
	jumps(t, "tiny", heights(0, tiny, 0, minus), tiny, 1, 2)
}

func TestP17_8At(t *testing.T) {
	l := []api.Point{pt(-10, 5), pt(0, 1), pt(4, 9), pt(5, 9), pt(1000, -1)}
	for x, want := range map[int64]float32{-10: 5, 0: 1, 4: 9, 5: 9, 1000: -1, -5: 3, 1: 3, 2: 5, 3: 7} {
		height(t, "along", l, x, want)
	}
	for _, x := range []int64{-11, 1001, math.MinInt64, math.MaxInt64, -api.MaxCents, api.MaxCents} {
		noHeight(t, "beyond", l, x, api.ErrCurveRange)
	}
	height(t, "one", heights(3), 0, 3)
	noHeight(t, "one", heights(3), 1, api.ErrCurveRange)
	noHeight(t, "one", heights(3), -1, api.ErrCurveRange)
	for _, x := range []int64{0, -1, math.MinInt64, math.MaxInt64} {
		noHeight(t, "none", nil, x, api.ErrCurveRange)
		noHeight(t, "none", []api.Point{}, x, api.ErrCurveRange)
	}
	ends := []api.Point{pt(-api.MaxCents, 0), pt(api.MaxCents, 8)}
	height(t, "from end to end", ends, 0, 4)
	noHeight(t, "one past the end", ends, api.MaxCents+1, api.ErrCurveRange)
	noHeight(t, "one ahead of it", ends, -api.MaxCents-1, api.ErrCurveRange)
}

// Heights that another reckoning makes another: in float64, or with the product and the sum joined into one rounding.
func TestP17_8Steps(t *testing.T) {
	for _, c := range []struct {
		y, v float32
		b, x int64
		want uint32
	}{{22, 36, 5, 3, 0x41F33334}, {99, 74, 3, 2, 0x42A4AAAA}, {38, 83, 21, 4, 0x423A4924}, {37, 86, 15, 14, 0x42A57778}} {
		height(t, "step by step", []api.Point{pt(0, c.y), pt(c.b, c.v)}, c.x, math.Float32frombits(c.want))
		height(t, "and elsewhere", []api.Point{pt(-9, 1), pt(1000, c.y), pt(1000+c.b, c.v), pt(5000, 0)}, 1000+c.x, math.Float32frombits(c.want))
	}
	height(t, "overflow", []api.Point{pt(0, -most), pt(2, most)}, 1, inf)
	height(t, "overflow below", []api.Point{pt(0, most), pt(2, -most)}, 1, -inf)
	height(t, "a part that is rounded to all of it", []api.Point{pt(0, 1), pt(33554432, 3)}, 33554431, 3)
	height(t, "from the first one on", []api.Point{pt(0, 1e8), pt(2, 4)}, 1, 50000000)
}

// Everything that is told of points is what the model tells.
func TestP17_1AsTheModel(t *testing.T) {
	r := rand.New(rand.NewSource(1711))
	counts := map[api.Errno]int{}
	for range 4000 {
		l := someOrdered(r, 20)
		if r.Intn(8) == 0 {
			l = someSpoilt(r)
		}
		window := pick(r, 1, 3, 5, 7, 9, 11, 13, 15, r.Intn(20)-2)
		got, e := curve.Slope(l)
		want, we := modelSlope(l)
		if !slices.Equal(got, want) || e != we {
			t.Fatalf("Slope(%v): %v, error %d, want %v, error %d", l, got, e, want, we)
		}
		got, e = curve.Smooth(l, window)
		want, we = modelSmooth(l, window)
		counts[we]++
		if !slices.Equal(got, want) || e != we {
			t.Fatalf("Smooth(%v, %d): %v, error %d, want %v, error %d", l, window, got, e, want, we)
		}
	}
	for _, e := range []api.Errno{api.OK, api.ErrCurveOrder, api.ErrCurveWindow} {
		if counts[e] < 100 {
			t.Errorf("error %d came %d times", e, counts[e])
		}
	}
}

func TestP17_8AsTheModel(t *testing.T) {
	r := rand.New(rand.NewSource(1718))
	counts := map[api.Errno]int{}
	for range 4000 {
		l := someOrdered(r, 6)
		if r.Intn(8) == 0 {
			l = someSpoilt(r)
		}
		for range 8 {
			x := r.Int63n(2*api.MaxCents) - api.MaxCents
			if len(l) > 0 && r.Intn(4) > 0 {
				p := pick(r, l...)
				x = p.X + pick(r, 0, 1, -1, someGap(r), -someGap(r), someGap(r)/2)
			}
			y, e := curve.At(l, x)
			want, we := modelAt(l, x)
			counts[we]++
			if y != want || e != we {
				t.Fatalf("At(%v, %d): %v (%s), error %d, want %v (%s), error %d", l, x, y, bits(y), e, want, bits(want), we)
			}
		}
	}
	for _, e := range []api.Errno{api.OK, api.ErrCurveOrder, api.ErrCurveRange} {
		if counts[e] < 1000 {
			t.Errorf("error %d came %d times", e, counts[e])
		}
	}
}

func TestP17_4And7AsTheModel(t *testing.T) {
	r := rand.New(rand.NewSource(1714))
	for range 10000 {
		l := somePoints(r)
		if got, want := curve.Rate(l), modelRate(l); !slices.Equal(got, want) {
			t.Fatalf("Rate(%v): %v, want %v", l, got, want)
		}
		least := pick(r, inf, -inf, nan, 0, someHeight(r, r.Intn(6)))
		if len(l) > 1 && r.Intn(2) == 0 {
			least = pick(r, less(l[1].Y, l[0].Y), less(l[0].Y, l[1].Y))
		}
		jumps(t, "as the model", l, least, modelJumps(l, least)...)
		if t.Failed() {
			return
		}
	}
}
