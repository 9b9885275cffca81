package money

import "levy/api"

// million is the rate that takes all: rates are millionths.
const million = 1000000

// Bracket tells what a bracket table takes of x: exact over all bands, rounded once.
func Bracket(bands []api.Band, x api.Value) api.Value {
	if v, is := refusal(toShare, x); is {
		return v
	}
	if !areBands(bands) {
		return fault(api.Wrong)
	}
	n, near := exact{low: taken(bands, x.Num), den: million}.whole(api.HalfUp)
	return fitting(api.Cents, n, near)
}

func areBands(bands []api.Band) bool {
	if len(bands) < 1 || len(bands) > api.MaxBands {
		return false
	}
	least, most := int64(0), int64(0)
	for _, b := range bands {
		if !within(b.From, least, most) || !within(b.Rate, 0, million) {
			return false
		}
		least, most = b.From+1, api.MaxCents
	}
	return true
}

// taken is the sum over the bands in millionths of a cent. It is at most MaxCents * million,
// which an int64 doesn't hold but one unsigned word does.
func taken(bands []api.Band, x int64) uint64 {
	sum := uint64(0)
	for i, b := range bands {
		top := x
		if i+1 < len(bands) {
			top = min(top, bands[i+1].From)
		}
		if top > b.From {
			sum += uint64(top-b.From) * uint64(b.Rate)
		}
	}
	return sum
}
