package curve_test

import (
	"math"
	"math/rand"
	"slices"
	"strings"
	"testing"

	"levy/api"
	"levy/curve"
)

func TestP17_9Draw(t *testing.T) {
	draws(t, "none", nil, 3, 2, "   ", "   ")
	draws(t, "none", []api.Point{}, 2, 3, "  ", "  ", "  ")
	draws(t, "one above 0", []api.Point{pt(5, 3)}, 3, 2, "   ", "*  ")
	draws(t, "one below 0", []api.Point{pt(-5, -3)}, 3, 2, "   ", "*  ")
	draws(t, "one at 0", []api.Point{pt(5, 0)}, 3, 2, "   ", "*--")
	draws(t, "one at the other 0", []api.Point{pt(5, minus)}, 3, 2, "   ", "*--")
	draws(t, "rising", heights(0, 1, 2, 3), 4, 4, "   *", "  * ", " *  ", "*---")
	draws(t, "falling below 0", heights(0, -1, -2), 3, 3, "*--", " * ", "  *")
	draws(t, "above 0", heights(2, 4, 3), 3, 3, " * ", "  *", "*  ")
	draws(t, "below 0", heights(-2, -4, -3), 3, 3, "*  ", "  *", " * ")
	draws(t, "about 0", heights(-1, 1, 0), 5, 3, "  *  ", "----*", "*    ")
	draws(t, "alike", heights(0, 0, minus), 5, 3, "     ", "     ", "*-*-*")
	draws(t, "alike above 0", heights(7, 7), 3, 3, "   ", "   ", "* *")
	draws(t, "alike below 0", heights(-7, -7), 3, 3, "   ", "   ", "* *")
	draws(t, "one above another", []api.Point{pt(0, 1), pt(1, 2), pt(2, 3), pt(100, 4)}, 2, 4, " *", "* ", "* ", "* ")
	draws(t, "on one spot", []api.Point{pt(0, 1), pt(1, 1), pt(100, 9)}, 2, 2, " *", "* ")
}

// Where 0 lies between two rows it has the row that its height tells.
func TestP17_9TheRowOf0(t *testing.T) {
	draws(t, "a third", heights(-1, 2), 2, 4, " *", "  ", "--", "* ")
	draws(t, "a quarter", heights(-1, 3), 2, 3, " *", "--", "* ")
	draws(t, "just below half", heights(-1, 3.01), 2, 3, " *", "  ", "*-")
	draws(t, "just at the upper row", heights(-3, 1), 2, 3, "-*", "  ", "* ")
	draws(t, "tiny above", heights(-1000, tiny), 2, 3, "-*", "  ", "* ")
	draws(t, "tiny below", heights(-tiny, 1000), 2, 3, " *", "  ", "*-")
	draws(t, "tiny both", heights(-tiny, tiny), 2, 3, " *", "--", "* ")
}

func TestP17_9Sizes(t *testing.T) {
	sizes := []int{math.MinInt, -1, 0, 1, 2, 3, 39, 40, 41, 71, 72, 73, math.MaxInt}
	lists := [][]api.Point{nil, heights(1, 2), heights(-most, most), places(3, 3), {pt(4, -most), pt(3, most)}}
	for _, wide := range sizes {
		for _, high := range sizes {
			for i, l := range lists {
				switch fits := wide >= 2 && wide <= 72 && high >= 2 && high <= 40; {
				case !fits:
					drawsNothing(t, "a size", l, wide, high, api.ErrCurveSize)
				case i >= 3:
					drawsNothing(t, "no order", l, wide, high, api.ErrCurveOrder)
				case i == 2:
					drawsNothing(t, "too far apart", l, wide, high, api.ErrCurveRange)
				default:
					hasSize(t, l, wide, high)
				}
			}
		}
	}
}

// hasSize asks for a picture of just that size.
func hasSize(t *testing.T, l []api.Point, wide, high int) {
	t.Helper()
	lines, e := curve.Draw(l, wide, high)
	if len(lines) != high || e != api.OK {
		t.Errorf("Draw(%v, %d, %d): %d lines, error %d", l, wide, high, len(lines), e)
	}
	for _, s := range lines {
		if len(s) != wide || strings.Trim(s, "-* ") != "" {
			t.Errorf("Draw(%v, %d, %d): line %q", l, wide, high, s)
		}
	}
}

func TestP17_9HowFarApart(t *testing.T) {
	half := float32(most / 2)
	draws(t, "just within", heights(-half, half), 2, 2, "-*", "* ")
	draws(t, "the greatest", heights(0, most), 2, 2, " *", "*-")
	draws(t, "the least", heights(0, -most), 2, 2, "*-", " *")
	step := math.Nextafter32(most, 0) - most // below 0: one step down from the greatest
	draws(t, "a bit more, that is lost", heights(step/4, most), 2, 2, " *", "*-")
	drawsNothing(t, "a bit more", heights(step/2, most), 2, 2, api.ErrCurveRange)
	drawsNothing(t, "the greatest and the least, far behind", heights(0, 1, most, 2, -most, 3), 9, 9, api.ErrCurveRange)
}

// rowOf: the row in which Draw draws the point of a height, beside two others at the heights' ends.
func rowOf(t *testing.T, y, least, greatest float32, high int) int {
	t.Helper()
	lines, e := curve.Draw([]api.Point{pt(0, least), pt(1, y), pt(2, greatest)}, 3, high)
	if e != api.OK || len(lines) != high {
		t.Fatalf("error %d", e)
	}
	for i, s := range lines {
		if s[1] == '*' {
			return high - 1 - i
		}
	}
	return -1
}

// Rows that another reckoning makes others: in float64, or with the product and the sum joined into one rounding.
func TestP17_9Rows(t *testing.T) {
	for _, c := range []struct {
		y, least, greatest float32
		high, want         int
	}{
		{math.Float32frombits(0x3EFFFFFF), 0, 1, 2, 1}, {math.Float32frombits(0x3EFFFFFE), 0, 1, 2, 0}, {0.5, 0, 1, 2, 1}, // a half is lost in the sum
		{math.Float32frombits(0x3E2AAAAA), 0, 1, 4, 1},
		{120, 0, 208, 40, 23}, {54, 0, 76, 20, 13}, {13, 0, 22, 12, 6}, {90, 0, 156, 14, 8}, // in float64: 22, 14, 7, 7
		{math.Float32frombits(0x3CD79435), 0, 1, 20, 1}, {math.Float32frombits(0x3CB21642), 0, 1, 24, 1}, {math.Float32frombits(0x3C579435), 0, 1, 39, 1}, // joined: 0
	} {
		if row := rowOf(t, c.y, c.least, c.greatest, c.high); row != c.want {
			t.Errorf("row of %v from %v to %v, %d high: %d, want %d", c.y, c.least, c.greatest, c.high, row, c.want)
		}
	}
}

// columnOf: the column in which Draw draws the point in the middle of three.
func columnOf(t *testing.T, x, first, last int64, wide int) int {
	t.Helper()
	lines, e := curve.Draw([]api.Point{pt(first, 1), pt(x, 2), pt(last, 1)}, wide, 2)
	if e != api.OK || len(lines) != 2 {
		t.Fatalf("error %d", e)
	}
	return strings.Index(lines[0], "*")
}

// A column begins at the first place that isn't below its part of the way, however long that is.
func TestP17_9Columns(t *testing.T) {
	for _, end := range []int64{500, 1 << 24, 1 << 40, api.MaxCents} {
		for _, wide := range []int{2, 3, 7, 40, 71, 72} {
			for c := int64(1); c < int64(wide-1); c++ {
				begins := (c*2*end + int64(wide-2)) / int64(wide-1) // rounded up
				if at, ahead := columnOf(t, begins-end, -end, end, wide), columnOf(t, begins-end-1, -end, end, wide); at != int(c) || ahead != int(c-1) {
					t.Errorf("-%d to %d, %d wide: %d and %d, want %d and %d", end, end, wide, at, ahead, c, c-1)
				}
			}
			if at := columnOf(t, end-1, -end, end, wide); at != wide-2 {
				t.Errorf("-%d to %d, %d wide: %d just ahead of the end", end, end, wide, at)
			}
		}
	}
}

// Where the way is as long as the picture is wide, each place has a column of its own.
func TestP17_9AColumnAPlace(t *testing.T) {
	for wide := 3; wide <= 72; wide++ {
		for x := 1; x < wide-1; x++ {
			if at := columnOf(t, int64(x-30), -30, int64(wide-1-30), wide); at != x {
				t.Errorf("%d wide: place %d has the column %d", wide, x, at)
			}
		}
	}
}

func TestP17_9AsTheModel(t *testing.T) {
	r := rand.New(rand.NewSource(1719))
	counts := map[api.Errno]int{}
	for range 3000 {
		l := someOrdered(r, 12)
		if r.Intn(8) == 0 {
			l = someSpoilt(r)
		}
		wide, high := 2+r.Intn(71), 2+r.Intn(39)
		if r.Intn(20) == 0 {
			wide, high = r.Intn(80)-2, r.Intn(50)-2
		}
		lines, e := curve.Draw(l, wide, high)
		want, we := modelDraw(l, wide, high)
		counts[we]++
		if !slices.Equal(lines, want) || e != we {
			t.Fatalf("Draw(%v, %d, %d): error %d\n%s\nwant: error %d\n%s", l, wide, high, e, strings.Join(lines, "\n"), we, strings.Join(want, "\n"))
		}
	}
	for _, e := range []api.Errno{api.OK, api.ErrCurveOrder, api.ErrCurveSize, api.ErrCurveRange} {
		if counts[e] < 20 {
			t.Errorf("error %d came %d times", e, counts[e])
		}
	}
}
