package days_test

import (
	"math"
	"math/rand"
	"slices"
	"testing"

	"levy/api"
	"levy/days"
)

// P2.8: weekends, days off in any order and more than once, numbers that are no days, the calendar's last days.
func TestDueExamples(t *testing.T) {
	sat := number(t, 2024, 6, 15)
	for _, c := range []struct {
		n    int
		off  []int
		want int
	}{
		{sat, nil, sat + 2}, {sat, []int{}, sat + 2}, {sat + 1, nil, sat + 2}, {sat + 2, nil, sat + 2}, {sat - 1, nil, sat - 1},
		{sat - 1, []int{sat - 1}, sat + 2}, {sat, []int{sat + 2}, sat + 3}, {sat, []int{sat + 3, sat + 2, -5, sat + 2}, sat + 4},
		{sat, []int{sat + 3}, sat + 2}, {sat, []int{sat, sat + 1}, sat + 2}, {sat + 2, []int{sat + 1, sat + 3}, sat + 2},
		{sat + 2, []int{sat + 6, sat + 5, sat + 4, sat + 3, sat + 2}, sat + 9},
		{sat + 2, []int{math.MaxInt, math.MinInt, -1, api.MaxDay + 1, sat + 2 + 1<<32}, sat + 2},
		{0, nil, 0}, {0, []int{0}, 1}, {api.MaxDay, nil, api.MaxDay}, {api.MaxDay - 1, []int{api.MaxDay - 1}, api.MaxDay},
	} {
		if n, e := days.Due(c.n, c.off); n != c.want || e != api.OK {
			t.Errorf("P2.8: Due(%d, %v) is %d, error %d, not %d", c.n, c.off, n, e, c.want)
		}
	}
}

// P2.8: no day, and no working day up to the calendar's end.
func TestDueRefuses(t *testing.T) {
	for _, n := range noDays {
		for _, off := range [][]int{nil, {}, {n}, {5}} {
			if got, e := days.Due(n, off); got != 0 || e != api.ErrDaysRange {
				t.Errorf("P2.8: Due(%d, %v) is %d, error %d, not ErrDaysRange", n, off, got, e)
			}
		}
	}
	if n, e := days.Due(api.MaxDay, []int{api.MaxDay}); n != 0 || e != api.ErrDaysRange {
		t.Errorf("P2.8: Due of the last day, which is off, is %d, error %d", n, e)
	}
	if n, e := days.Due(api.MaxDay-2, []int{api.MaxDay, api.MaxDay - 1}); n != 0 || e != api.ErrDaysRange {
		t.Errorf("P2.8: Due of the last Sunday, all behind it off, is %d, error %d", n, e)
	}
}

// P2.8: lists at random, held against a search day by day; the list stays as it was.
func TestDueIsTheLeast(t *testing.T) {
	random := rand.New(rand.NewSource(8))
	for _, n := range picks() {
		off := make([]int, random.Intn(12), 16)
		for i := range off {
			off[i] = n - 2 + random.Intn(14)
		}
		kept := slices.Clone(off[:cap(off)])
		want, found := 0, api.ErrDaysRange
		for day := n; day <= api.MaxDay; day++ {
			if w := civil(day).Weekday(); w != 0 && w != 6 && !slices.Contains(off, day) {
				want, found = day, api.OK
				break
			}
		}
		if got, e := days.Due(n, off); got != want || e != found {
			t.Errorf("P2.8: Due(%d, %v) is %d, error %d, not %d, error %d", n, off, got, e, want, found)
		}
		if !slices.Equal(off[:cap(off)], kept) {
			t.Errorf("P2.8: Due changed the list, or the room behind it: %v, not %v", off[:cap(off)], kept)
		}
	}
}

// P2.8: the whole calendar off, and all of it but one day; it must end in good time.
func TestDueOfALongList(t *testing.T) {
	off := make([]int, 0, api.MaxDay+1)
	for n := api.MaxDay; n >= 0; n-- {
		off = append(off, n)
	}
	if n, e := days.Due(0, off); n != 0 || e != api.ErrDaysRange {
		t.Errorf("P2.8: Due with all days off is %d, error %d", n, e)
	}
	if n, e := days.Due(0, off[1:]); n != api.MaxDay || e != api.OK {
		t.Errorf("P2.8: Due with all days but the last one off is %d, error %d", n, e)
	}
}
