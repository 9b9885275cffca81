package curve_test

import (
	"fmt"
	"math"
	"math/rand"
	"slices"
	"testing"

	"levy/api"
	"levy/curve"
)

// The heights at the edges of what a float32 tells.
var (
	inf   = float32(math.Inf(1))
	nan   = float32(math.NaN())
	minus = float32(math.Copysign(0, -1)) // the zero with a sign
)

const (
	most = math.MaxFloat32
	tiny = math.SmallestNonzeroFloat32
)

func pt(x int64, y float32) api.Point { return api.Point{X: x, Y: y} }

// heights: points at 0, 1, 2 and so on.
func heights(ys ...float32) []api.Point {
	l := []api.Point{}
	for i, y := range ys {
		l = append(l, pt(int64(i), y))
	}
	return l
}

// places: points of the height 1.
func places(xs ...int64) []api.Point {
	l := []api.Point{}
	for _, x := range xs {
		l = append(l, pt(x, 1))
	}
	return l
}

// ysOf: the heights of points.
func ysOf(l []api.Point) []float32 {
	ys := []float32{}
	for _, p := range l {
		ys = append(ys, p.Y)
	}
	return ys
}

func bits(y float32) string { return fmt.Sprintf("%08X", math.Float32bits(y)) }

// constant: a function that has one value everywhere.
func constant(kind int, n int64) func(int64) api.Value {
	return func(int64) api.Value { return api.Value{Kind: kind, Num: n} }
}

// lineOf: a function that has the value x * up / down cents.
func lineOf(up, down int64) func(int64) api.Value {
	return func(x int64) api.Value { return api.Value{Kind: api.Cents, Num: x * up / down} }
}

// points asks for a list of points, and no error.
func points(t *testing.T, what string, l []api.Point, e api.Errno, want ...api.Point) {
	t.Helper()
	if !slices.Equal(l, want) || e != api.OK {
		t.Errorf("%s: %v, error %d, want %v", what, l, e, want)
	}
}

// noPoints asks for an error, and nothing beside it.
func noPoints(t *testing.T, what string, l []api.Point, e, want api.Errno) {
	t.Helper()
	if len(l) != 0 || e != want {
		t.Errorf("%s: %v, error %d, want error %d", what, l, e, want)
	}
}

// jumps asks for the numbers that Jumps tells.
func jumps(t *testing.T, what string, l []api.Point, least float32, want ...int) {
	t.Helper()
	if got := curve.Jumps(l, least); !slices.Equal(got, want) {
		t.Errorf("%s: Jumps(%v, %v): %v, want %v", what, l, least, got, want)
	}
}

// height asks for what At answers without an error.
func height(t *testing.T, what string, l []api.Point, x int64, want float32) {
	t.Helper()
	if y, e := curve.At(l, x); y != want || e != api.OK {
		t.Errorf("%s: At(%v, %d): %v (%s), error %d, want %v (%s)", what, l, x, y, bits(y), e, want, bits(want))
	}
}

// noHeight asks for At's error.
func noHeight(t *testing.T, what string, l []api.Point, x int64, want api.Errno) {
	t.Helper()
	if y, e := curve.At(l, x); y != 0 || e != want {
		t.Errorf("%s: At(%v, %d): %v, error %d, want error %d", what, l, x, y, e, want)
	}
}

// draws asks for a picture.
func draws(t *testing.T, what string, l []api.Point, wide, high int, want ...string) {
	t.Helper()
	if got, e := curve.Draw(l, wide, high); !slices.Equal(got, want) || e != api.OK {
		t.Errorf("%s: Draw(%v, %d, %d): %q, error %d, want %q", what, l, wide, high, got, e, want)
	}
}

// drawsNothing asks for Draw's error.
func drawsNothing(t *testing.T, what string, l []api.Point, wide, high int, want api.Errno) {
	t.Helper()
	if got, e := curve.Draw(l, wide, high); len(got) != 0 || e != want {
		t.Errorf("%s: Draw(%v, %d, %d): %q, error %d, want error %d", what, l, wide, high, got, e, want)
	}
}

// pick: one of some things.
func pick[T any](r *rand.Rand, l ...T) T { return l[r.Intn(len(l))] }

// anyFinite: a height of any bits that are a number.
func anyFinite(r *rand.Rand) float32 {
	for {
		if y := math.Float32frombits(r.Uint32()); plain(y) {
			return y
		}
	}
}

// someHeight: a finite height of a sort (0 to 5), so that those of one list have to do with each other.
func someHeight(r *rand.Rand, sort int) float32 {
	switch sort {
	case 0:
		return float32(r.Intn(9) - 4)
	case 1:
		return float32(r.Intn(40_000_000) - 20_000_000)
	case 2:
		return float32(r.NormFloat64())
	case 3:
		return math.Float32frombits(uint32(r.Intn(20)) | uint32(r.Intn(2))<<31)
	case 4:
		return math.Float32frombits(0x7F7FFFFF - uint32(r.Intn(20)) | uint32(r.Intn(2))<<31)
	}
	return pick(r, anyFinite(r), 0, minus, tiny, -tiny, most, -most, 1)
}

// someGap: how far one place may be from the next one.
func someGap(r *rand.Rand) int64 {
	return 1 + r.Int63n(pick[int64](r, 1, 3, 20, 1000, 1<<25, 1<<33, 1e12))
}

// someOrdered: up to many points in order.
func someOrdered(r *rand.Rand, many int) []api.Point {
	l := []api.Point{}
	sort := r.Intn(6)
	x := pick(r, -r.Int63n(api.MaxCents), -api.MaxCents, -3, 0, 1, r.Int63n(api.MaxCents))
	for range r.Intn(many + 1) {
		l = append(l, pt(x, someHeight(r, sort)))
		if x += someGap(r); x > api.MaxCents {
			break
		}
	}
	return l
}

// someSpoilt: points that were in order till one of them was made another; now and then they still are.
func someSpoilt(r *rand.Rand) []api.Point {
	l := someOrdered(r, 6)
	if len(l) == 0 {
		return l
	}
	p := &l[r.Intn(len(l))]
	switch r.Intn(3) {
	case 0:
		p.X = pick(r, l[0].X, l[len(l)-1].X, math.MinInt64, -api.MaxCents-1, api.MaxCents+1, math.MaxInt64)
	case 1:
		p.Y = pick(r, inf, -inf, nan)
	case 2:
		l[0], *p = *p, l[0]
	}
	return l
}

// somePoints: points in any order, of any heights and places.
func somePoints(r *rand.Rand) []api.Point {
	l := []api.Point{}
	sort := r.Intn(6)
	for range r.Intn(9) {
		y := someHeight(r, sort)
		if r.Intn(6) == 0 {
			y = pick(r, inf, -inf, nan, 0, most, -most)
		}
		l = append(l, pt(pick(r, 0, 1, -1, int64(r.Uint64()), r.Int63n(1<<26)-1<<25, math.MinInt64, math.MaxInt64), y))
	}
	return l
}

// roomy: the same points, with spare room that holds something.
func roomy(l []api.Point) []api.Point {
	room := append(slices.Clone(l), pt(-987, 654), pt(321, -98))
	return room[:len(l)]
}

// laidOpen tells points, spare room too, by their bits.
func laidOpen(l []api.Point) string {
	s := ""
	for _, p := range l[:cap(l)] {
		s += fmt.Sprint(p.X, " ", bits(p.Y), ", ")
	}
	return s
}

// scribble writes into all that a list has, spare room too.
func scribble[T any](l []T, junk T) {
	for i := range l[:cap(l)] {
		l[:cap(l)][i] = junk
	}
}
