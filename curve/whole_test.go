package curve_test

import (
	"math"
	"math/rand"
	"slices"
	"strings"
	"testing"

	"levy/api"
	"levy/curve"
	"levy/money"
)

// The chapter's examples.
func TestP17_3To9Examples(t *testing.T) {
	l, e := curve.Sample(lineOf(1, 2), 0, 200, 4)
	points(t, "Sample", l, e, pt(0, 0), pt(200, 100), pt(400, 200), pt(600, 300))
	s, e := curve.Slope(l)
	points(t, "Slope", s, e, pt(0, 0.5), pt(200, 0.5), pt(400, 0.5))
	points(t, "Rate", curve.Rate(l), api.OK, pt(200, 0.5), pt(400, 0.5), pt(600, 0.5))
	height(t, "At", l, 300, 150)
	m, e := curve.Smooth(l, 3)
	points(t, "Smooth", m, e, pt(0, 50), pt(200, 100), pt(400, 200), pt(600, 250))
	draws(t, "Draw", l, 7, 4, "      *", "    *  ", "  *    ", "*------")
	s, _ = curve.Slope([]api.Point{pt(0, 0), pt(3, 1)})
	if len(s) != 1 || bits(s[0].Y) != "3EAAAAAB" {
		t.Errorf("a third: %v", s)
	}
	jumps(t, "Jumps", heights(0, 5, 5, 1), 4, 1, 3)
}

// taxed: what a bracket table takes of an amount.
func taxed(bands []api.Band) func(int64) api.Value {
	return func(x int64) api.Value { return money.Bracket(bands, api.Value{Kind: api.Cents, Num: x}) }
}

// README's example.
func TestP17_10Readme(t *testing.T) {
	tax := taxed([]api.Band{{From: 0, Rate: 100000}, {From: 1000000, Rate: 250000}})
	l, e := curve.Sample(tax, 0, 500000, 5)
	points(t, "Sample", l, e, pt(0, 0), pt(500000, 50000), pt(1000000, 100000), pt(1500000, 225000), pt(2000000, 350000))
	points(t, "Rate", curve.Rate(l), api.OK, pt(500000, 0.1), pt(1000000, 0.1), pt(1500000, 0.15), pt(2000000, 0.175))
	s, e := curve.Slope(l)
	points(t, "Slope", s, e, pt(0, 0.1), pt(500000, 0.1), pt(1000000, 0.25), pt(1500000, 0.25))
	jumps(t, "Jumps", s, 0.1, 2)
	height(t, "At", l, 1250000, 162500)
	noHeight(t, "At", l, 2500000, api.ErrCurveRange)
	m, e := curve.Smooth(l, 3)
	points(t, "Smooth", m, e, pt(0, 25000), pt(500000, 50000), pt(1000000, 125000), pt(1500000, 225000), pt(2000000, 287500))
	draws(t, "Draw", l, 9, 4, "        *", "      *  ", "    *    ", "*-*------")
}

// The marginal rate of a bracket table is its bands' rate, and the effective one tax by wage, each rounded once: all taxes and wages here are below 16777216.
func TestP17_10Rates(t *testing.T) {
	bands := []api.Band{{From: 0, Rate: 100000}, {From: 1000000, Rate: 220000}, {From: 4000000, Rate: 333000}, {From: 9000000, Rate: 0}, {From: 12000000, Rate: 1000000}}
	l, e := curve.Sample(taxed(bands), 0, 250000, 63)
	if e != api.OK || len(l) != 63 {
		t.Fatalf("%d points, error %d", len(l), e)
	}
	slopes, e := curve.Slope(l)
	if e != api.OK || len(slopes) != 62 {
		t.Fatalf("%d slopes, error %d", len(slopes), e)
	}
	for _, s := range slopes {
		rate := int64(0)
		for _, b := range bands {
			if b.From <= s.X {
				rate = b.Rate
			}
		}
		if s.Y != float32(float64(rate)/1000000) {
			t.Errorf("from %d on: %v, want %d millionths", s.X, s.Y, rate)
		}
	}
	rates := curve.Rate(l)
	if len(rates) != 62 {
		t.Fatalf("%d rates", len(rates))
	}
	for _, p := range rates {
		if tax := taxed(bands)(p.X).Num; p.Y != float32(float64(tax)/float64(p.X)) {
			t.Errorf("at %d: %v, want %d by %d", p.X, p.Y, tax, p.X)
		}
	}
}

// A function of constant pieces has the slope 0 within them, and a jump where one ends.
func TestP17_10ConstantPieces(t *testing.T) {
	steps := func(x int64) api.Value { return api.Value{Kind: api.Cents, Num: x / 1000 * 64} }
	l, _ := curve.Sample(steps, 0, 250, 64)
	slopes, e := curve.Slope(l)
	if e != api.OK || len(slopes) != 63 {
		t.Fatalf("%d slopes, error %d", len(slopes), e)
	}
	var ends []int
	for i, s := range slopes {
		want := float32(0)
		if (s.X+250)%1000 == 0 {
			want = float32(64) / 250
			ends = append(ends, i+1)
		}
		if s.Y != want {
			t.Errorf("from %d on: %v, want %v", s.X, s.Y, want)
		}
	}
	jumps(t, "where a piece ends", l, 64, ends...)
}

func TestP17_11(t *testing.T) {
	r := rand.New(rand.NewSource(1721))
	drawn := 0
	for range 2000 {
		l := someOrdered(r, 30)
		got, e := curve.Smooth(l, 1)
		points(t, "the window 1", got, e, l...)
		for _, p := range l {
			height(t, "at a point", l, p.X, p.Y)
		}
		wide, high := 2+r.Intn(71), 2+r.Intn(39)
		if lines, e := curve.Draw(l, wide, high); e == api.OK {
			drawn++
			drawsEachPoint(t, l, lines, wide)
		}
		if t.Failed() {
			t.Fatalf("points %v", l)
		}
	}
	if drawn < 1000 {
		t.Errorf("%d pictures", drawn)
	}
}

// drawsEachPoint asks for a star in each column that has a point, at most as many as it has points, and for none in another; and for the height 0 in one row at most.
func drawsEachPoint(t *testing.T, l []api.Point, lines []string, wide int) {
	t.Helper()
	many := make([]int, wide)
	for _, p := range l {
		many[modelColumn(p.X, l[0].X, l[len(l)-1].X, wide)]++
	}
	for c, n := range many {
		stars := 0
		for _, s := range lines {
			if s[c] == '*' {
				stars++
			}
		}
		if stars > n || n > 0 && stars == 0 {
			t.Errorf("column %d: %d stars for %d points", c, stars, n)
		}
	}
	grounds := 0
	for _, s := range lines {
		if strings.Contains(s, "-") {
			grounds++
		}
	}
	if grounds > 1 {
		t.Errorf("%d rows of the height 0", grounds)
	}
}

// wholeHeights: points in order of whole heights, each of which differs from the one ahead by a multiple of the way; heights and differences lie within the bound.
func wholeHeights(r *rand.Rand) ([]api.Point, []int64) {
	const bound = 16777215
	x, y := r.Int63n(1000)-500, r.Int63n(bound)-bound/2
	l, ys := []api.Point{pt(x, float32(y))}, []int64{y}
	for range 1 + r.Intn(20) {
		gap := 1 + r.Int63n(pick[int64](r, 3, 100, 100000))
		to := y + gap*(r.Int63n(2*bound/gap+1)-bound/gap)
		if max(to, -to, to-y, y-to) > bound {
			to = y
		}
		x, y = x+gap, to
		l, ys = append(l, pt(x, float32(y))), append(ys, y)
	}
	return l, ys
}

func TestP17_12SlopesAndJumps(t *testing.T) {
	r := rand.New(rand.NewSource(1722))
	for range 5000 {
		l, ys := wholeHeights(r)
		least := r.Int63n(16777216)
		slopes, e := curve.Slope(l)
		if e != api.OK || len(slopes) != len(l)-1 {
			t.Fatalf("%d slopes, error %d", len(slopes), e)
		}
		var far []int
		for i := 1; i < len(l); i++ {
			d := ys[i] - ys[i-1]
			if got := float64(slopes[i-1].Y); got != float64(d/(l[i].X-l[i-1].X)) {
				t.Fatalf("slope from %v to %v: %v", l[i-1], l[i], got)
			}
			if max(d, -d) >= least {
				far = append(far, i)
			}
		}
		jumps(t, "whole", l, float32(least), far...)
	}
}

func TestP17_12RatesAndMeans(t *testing.T) {
	r := rand.New(rand.NewSource(1723))
	for range 20000 {
		x := (1 + r.Int63n(5000)) * pick[int64](r, 1, -1)
		n := r.Int63n(16777216/max(x, -x)) * pick[int64](r, 1, -1)
		points(t, "Rate", curve.Rate([]api.Point{pt(x, float32(x*n))}), api.OK, pt(x, float32(n)))
		a, b := r.Int63n(2796202), r.Int63n(2796202) // their sums are exact, too
		got, e := curve.Smooth(heights(float32(3*a), float32(3*b), float32(-3*a)), 3)
		if e != api.OK || len(got) != 3 || float64(got[1].Y) != float64(b) {
			t.Fatalf("the mean of %d, %d and %d: %v, error %d", 3*a, 3*b, -3*a, got, e)
		}
	}
}

// What is handed in stays as it is, spare room too; what is answered is the caller's own.
func TestP17_3To9Memory(t *testing.T) {
	r := rand.New(rand.NewSource(1724))
	for range 500 {
		l := roomy(pick(r, someOrdered(r, 20), someOrdered(r, 20), somePoints(r), someSpoilt(r)))
		was := laidOpen(l)
		for _, call := range []func() []api.Point{
			func() []api.Point { return curve.Rate(l) },
			func() []api.Point { s, _ := curve.Slope(l); return s },
			func() []api.Point { s, _ := curve.Smooth(l, 1); return s },
			func() []api.Point { s, _ := curve.Smooth(l, 5); return s },
			func() []api.Point { s, _ := curve.Sample(lineOf(1, 3), 1, 2, 9); return s },
		} {
			first, second := call(), call()
			told := laidOpen(second)
			scribble(first, pt(-77, 77))
			if laidOpen(second) != told {
				t.Fatal("two answers share memory")
			}
			told = laidOpen(slices.Clip(second))
			scribble(second, pt(-66, 66))
			if laidOpen(slices.Clip(call())) != told {
				t.Fatal("an answer was kept")
			}
		}
		scribble(curve.Jumps(l, 0), -7)
		lines, _ := curve.Draw(l, 9, 9)
		scribble(lines, "junk")
		curve.At(l, 5)
		if laidOpen(l) != was {
			t.Fatalf("the points are others: %s, were %s", laidOpen(l), was)
		}
	}
}

func TestP17_4To9NilAndEmptyAreTheSame(t *testing.T) {
	for _, l := range [][]api.Point{nil, {}, make([]api.Point, 0, 4)} {
		points(t, "Rate", curve.Rate(l), api.OK)
		s, e := curve.Slope(l)
		points(t, "Slope", s, e)
		s, e = curve.Smooth(l, 7)
		points(t, "Smooth", s, e)
		jumps(t, "Jumps", l, -inf)
		noHeight(t, "At", l, 0, api.ErrCurveRange)
		draws(t, "Draw", l, 2, 2, "  ", "  ")
	}
}

// Points of any bits, and any numbers beside them: no call panics.
func TestP17_4To9AnyPoints(t *testing.T) {
	r := rand.New(rand.NewSource(1725))
	for range 20000 {
		l := somePoints(r)
		curve.Rate(l)
		curve.Slope(l)
		curve.Smooth(l, r.Intn(18)-1)
		curve.Jumps(l, math.Float32frombits(r.Uint32()))
		curve.At(l, pick(r, int64(r.Uint64()), 0, 1))
		curve.Draw(l, r.Intn(80)-2, r.Intn(50)-2)
	}
}

// A long list takes no longer than its length asks for.
func TestP17_4To9LongLists(t *testing.T) {
	l := make([]api.Point, 1_000_000)
	for i := range l {
		l[i] = pt(int64(i), float32(i%7))
	}
	m, e := curve.Smooth(l, 15)
	s, f := curve.Slope(l)
	if len(m) != len(l) || len(s) != len(l)-1 || e != api.OK || f != api.OK {
		t.Errorf("%d means, %d slopes, errors %d, %d", len(m), len(s), e, f)
	}
	height(t, "the last but one", l, 999_998, float32(999_998%7))
	if n := len(curve.Jumps(l, 6)); n != 142857 {
		t.Errorf("%d jumps", n)
	}
	if n := len(curve.Rate(l)); n != len(l)-1 {
		t.Errorf("%d rates", n)
	}
	hasSize(t, l, 72, 40)
}
