package curve

import (
	"math"

	"levy/api"
)

// widest: the greatest window that heights are smoothed by.
const widest = 15

// within tells whether a place is an amount of cents.
func within(x int64) bool { return -api.MaxCents <= x && x <= api.MaxCents }

// finite tells whether a height is a number, and no infinity.
func finite(y float32) bool { return -math.MaxFloat32 <= y && y <= math.MaxFloat32 }

// inOrder tells whether places rise, and they and all heights are within their bounds.
func inOrder(l []api.Point) bool {
	for i, p := range l {
		if !within(p.X) || !finite(p.Y) || i > 0 && p.X <= l[i-1].X {
			return false
		}
	}
	return true
}

// mayStep tells whether so many more steps from a place on stay within the amounts of cents.
func mayStep(from, step, more int64) bool {
	if step < 1 || !within(from) {
		return false
	}
	return more == 0 || step <= (api.MaxCents-from)/more // no product: it may be beyond every number
}

// rise tells by how much the height changes a cent, from one point to the next.
func rise(a, b api.Point) float32 { return (b.Y - a.Y) / float32(b.X-a.X) }

// mean tells the mean height of at least one point.
func mean(l []api.Point) float32 {
	sum := l[0].Y
	for _, p := range l[1:] {
		sum += p.Y
	}
	return sum / float32(len(l))
}

// amount tells a difference without its sign.
func amount(y float32) float32 {
	if y < 0 {
		return -y
	}
	return y
}

// between tells the height at a place between two points.
func between(a, b api.Point, x int64) float32 {
	part := float32(x-a.X) / float32(b.X-a.X)
	return a.Y + float32((b.Y-a.Y)*part) // converted, or a compiler may join the product and the sum into one rounding
}
