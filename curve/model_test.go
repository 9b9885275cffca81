package curve_test

import (
	"math"
	"math/big"

	"levy/api"
)

// A model of the layer: each step is taken on fractions, without any rounding, and what comes of it is rounded once. It knows the chapter's words, nothing of the program.

func plain(y float32) bool { return !math.IsNaN(float64(y)) && !math.IsInf(float64(y), 0) }

func fraction(y float32) *big.Rat { return new(big.Rat).SetFloat64(float64(y)) }

// rounded: the float32 that is nearest to a fraction.
func rounded(r *big.Rat) float32 {
	y, _ := r.Float32()
	return y
}

// whole: [n].
func whole(n int64) float32 { return rounded(new(big.Rat).SetInt64(n)) }

// The four steps. Of infinities nothing is to be rounded.

func plus(a, b float32) float32 {
	if !plain(a) || !plain(b) {
		return a + b
	}
	return rounded(new(big.Rat).Add(fraction(a), fraction(b)))
}

func less(a, b float32) float32 { return plus(a, -b) }

func times(a, b float32) float32 {
	if !plain(a) || !plain(b) {
		return a * b
	}
	return rounded(new(big.Rat).Mul(fraction(a), fraction(b)))
}

func over(a, b float32) float32 {
	if !plain(a) || !plain(b) {
		return a / b
	}
	return rounded(new(big.Rat).Quo(fraction(a), fraction(b)))
}

func ordered(l []api.Point) bool {
	last := int64(-api.MaxCents - 1)
	for _, p := range l {
		if p.X <= last || p.X > api.MaxCents || !plain(p.Y) {
			return false
		}
		last = p.X
	}
	return true
}

func modelRate(l []api.Point) []api.Point {
	var out []api.Point
	for _, p := range l {
		if p.X == 0 || !plain(p.Y) {
			continue
		}
		out = append(out, pt(p.X, over(p.Y, whole(p.X))))
	}
	return out
}

func modelSlope(l []api.Point) ([]api.Point, api.Errno) {
	if !ordered(l) {
		return nil, api.ErrCurveOrder
	}
	var out []api.Point
	for i := range l {
		if i+1 < len(l) {
			out = append(out, pt(l[i].X, over(less(l[i+1].Y, l[i].Y), whole(l[i+1].X-l[i].X))))
		}
	}
	return out, api.OK
}

func modelSmooth(l []api.Point, window int) ([]api.Point, api.Errno) {
	if window < 1 || window > 15 || window&1 == 0 {
		return nil, api.ErrCurveWindow
	}
	if !ordered(l) {
		return nil, api.ErrCurveOrder
	}
	var out []api.Point
	for i, p := range l {
		sum, many := float32(0), 0
		for j, q := range l {
			if 2*max(i-j, j-i) > window-1 {
				continue
			}
			if sum = plus(sum, q.Y); many == 0 {
				sum = q.Y
			}
			many++
		}
		out = append(out, pt(p.X, over(sum, whole(int64(many)))))
	}
	return out, api.OK
}

func modelJumps(l []api.Point, least float32) []int {
	var out []int
	for i := range l {
		if i == 0 {
			continue
		}
		if d := less(l[i].Y, l[i-1].Y); d >= least || -d >= least && d < 0 {
			out = append(out, i)
		}
	}
	return out
}

func modelAt(l []api.Point, x int64) (float32, api.Errno) {
	if !ordered(l) {
		return 0, api.ErrCurveOrder
	}
	for i, p := range l {
		if p.X == x {
			return p.Y, api.OK
		}
		if i > 0 && l[i-1].X < x && x < p.X {
			a := l[i-1]
			return plus(a.Y, times(less(p.Y, a.Y), over(whole(x-a.X), whole(p.X-a.X)))), api.OK
		}
	}
	return 0, api.ErrCurveRange
}

// modelRow: the row of a height: the greatest whole number that isn't above what is told of it.
func modelRow(y, least, greatest float32, high int) int {
	if least == greatest {
		return 0
	}
	at := plus(times(over(less(y, least), less(greatest, least)), whole(int64(high-1))), 0.5)
	row := 0
	for float32(row+1) <= at {
		row++
	}
	return row
}

// modelColumn: the last column c of which c / (wide - 1) of the way isn't beyond the place.
func modelColumn(x, first, last int64, wide int) int {
	column := 0
	for c := range int64(wide) {
		if last > first && c*(last-first) <= (x-first)*int64(wide-1) {
			column = int(c)
		}
	}
	return column
}

func modelDraw(l []api.Point, wide, high int) ([]string, api.Errno) {
	if wide < 2 || wide > 72 || high < 2 || high > 40 {
		return nil, api.ErrCurveSize
	}
	if !ordered(l) {
		return nil, api.ErrCurveOrder
	}
	least, greatest := float32(math.Inf(1)), float32(math.Inf(-1))
	for _, p := range l {
		if p.Y < least {
			least = p.Y
		}
		if p.Y > greatest {
			greatest = p.Y
		}
	}
	if len(l) > 0 && !plain(less(greatest, least)) {
		return nil, api.ErrCurveRange
	}
	star := map[[2]int]bool{}
	for _, p := range l {
		star[[2]int{modelRow(p.Y, least, greatest, high), modelColumn(p.X, l[0].X, l[len(l)-1].X, wide)}] = true
	}
	ground := -1
	if least <= 0 && greatest >= 0 {
		ground = modelRow(0, least, greatest, high)
	}
	var out []string
	for row := high - 1; row >= 0; row-- {
		s := ""
		for c := range wide {
			switch {
			case star[[2]int{row, c}]:
				s += "*"
			case row == ground:
				s += "-"
			default:
				s += " "
			}
		}
		out = append(out, s)
	}
	return out, api.OK
}
