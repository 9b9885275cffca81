package days_test

import (
	"math"
	"slices"
	"testing"

	"levy/api"
	"levy/days"
)

// piece: what Months gives at a step.
type piece struct {
	first api.Date
	count int
}

func months(from, to int) []piece {
	var list []piece
	for d, n := range days.Months(from, to) {
		list = append(list, piece{d, n})
	}
	return list
}

func at(year, month, day int) api.Date { return api.Date{Year: year, Month: month, Day: day} }

// P2.9: the document's example, single days, the calendar's ends, spans that are beyond it or run backward.
func TestMonthsExamples(t *testing.T) {
	for _, c := range []struct {
		from, to int
		want     []piece
	}{
		{number(t, 2024, 1, 30), number(t, 2024, 3, 2), []piece{{at(2024, 1, 30), 2}, {at(2024, 2, 1), 29}, {at(2024, 3, 1), 2}}},
		{number(t, 2023, 12, 31), number(t, 2024, 1, 1), []piece{{at(2023, 12, 31), 1}, {at(2024, 1, 1), 1}}},
		{5, 5, []piece{{at(1900, 1, 6), 1}}}, {5, 7, []piece{{at(1900, 1, 6), 3}}}, {0, 30, []piece{{at(1900, 1, 1), 31}}},
		{0, 31, []piece{{at(1900, 1, 1), 31}, {at(1900, 2, 1), 1}}}, {30, 31, []piece{{at(1900, 1, 31), 1}, {at(1900, 2, 1), 1}}},
		{6, 5, nil}, {api.MaxDay, 0, nil}, {math.MaxInt, math.MinInt, nil}, {5, math.MinInt, nil}, {math.MaxInt, 5, nil},
		{-1, 0, []piece{{at(1900, 1, 1), 1}}}, {math.MinInt, 0, []piece{{at(1900, 1, 1), 1}}}, {-100, 31, []piece{{at(1900, 1, 1), 31}, {at(1900, 2, 1), 1}}},
		{api.MaxDay, api.MaxDay, []piece{{at(2199, 12, 31), 1}}}, {api.MaxDay, api.MaxDay + 1, []piece{{at(2199, 12, 31), 1}}},
		{api.MaxDay - 1, math.MaxInt, []piece{{at(2199, 12, 30), 2}}},
		{-9, -1, nil}, {math.MinInt, -1, nil}, {math.MinInt, math.MinInt, nil},
		{api.MaxDay + 1, api.MaxDay + 9, nil}, {api.MaxDay + 1, math.MaxInt, nil}, {math.MaxInt, math.MaxInt, nil},
	} {
		if list := months(c.from, c.to); !slices.Equal(list, c.want) {
			t.Errorf("P2.9: Months(%d, %d) gives %v, not %v", c.from, c.to, list, c.want)
		}
	}
}

// P2.9, P2.15: held against a count day by day: pieces that follow one another, without a gap, as many days as the span.
func TestMonthsCutASpan(t *testing.T) {
	for _, s := range spans() {
		var want []piece
		for n := s[0]; n <= s[1]; n++ {
			c := civil(n)
			if n == s[0] || c.Day() == 1 {
				want = append(want, piece{at(c.Year(), int(c.Month()), c.Day()), 0})
			}
			want[len(want)-1].count++
		}
		list := months(s[0], s[1])
		if !slices.Equal(list, want) {
			t.Fatalf("P2.9: Months(%d, %d) gives %v, not %v", s[0], s[1], list, want)
		}
		next := s[0]
		for _, p := range list {
			if n := number(t, p.first.Year, p.first.Month, p.first.Day); n != next {
				t.Fatalf("P2.15: Months(%d, %d): a piece begins at %d, not %d", s[0], s[1], n, next)
			}
			next += p.count
		}
		if next != s[1]+1 {
			t.Fatalf("P2.15: Months(%d, %d) covers %d days, not %d", s[0], s[1], next-s[0], s[1]-s[0]+1)
		}
	}
}

// P2.9: all 3600 months, whatever numbers bound them.
func TestMonthsOfTheCalendar(t *testing.T) {
	for _, s := range [][2]int{{0, api.MaxDay}, {math.MinInt, math.MaxInt}, {-1, api.MaxDay + 1}} {
		list := months(s[0], s[1])
		if len(list) != 3600 {
			t.Fatalf("P2.9: Months(%d, %d) gives %d months", s[0], s[1], len(list))
		}
		for i, p := range list {
			if want := at(1900+i/12, i%12+1, 1); p.first != want || p.count != days.Last(want.Year, want.Month) {
				t.Fatalf("P2.9: month %d is %v, not the whole of %v", i, p, want)
			}
		}
	}
}

// P2.9: it stops where it is told to, at each step, and gives the same when it is gone through again, within itself too.
func TestMonthsLeftAndGoneThroughAgain(t *testing.T) {
	from, to := number(t, 2024, 1, 30), number(t, 2024, 6, 2)
	whole := months(from, to)
	seq := days.Months(from, to)
	for leave := 1; leave <= len(whole); leave++ {
		var got []piece
		seq(func(d api.Date, n int) bool {
			got = append(got, piece{d, n})
			return len(got) < leave
		})
		if !slices.Equal(got, whole[:leave]) {
			t.Errorf("P2.9: left at step %d it gave %v", leave, got)
		}
	}
	for range seq {
		var inner []piece
		for d, n := range seq {
			inner = append(inner, piece{d, n})
		}
		if !slices.Equal(inner, whole) {
			t.Errorf("P2.9: gone through within itself it gave %v", inner)
		}
	}
}

// P2.9: never nil, where there is nothing to give either.
func TestMonthsIsNeverNil(t *testing.T) {
	for _, s := range [][2]int{{6, 5}, {math.MaxInt, math.MinInt}, {-5, -1}, {api.MaxDay + 1, api.MaxDay + 2}} {
		if days.Months(s[0], s[1]) == nil {
			t.Errorf("P2.9: Months(%d, %d) is nil", s[0], s[1])
		}
	}
}

// P2.10: spans about, within, behind and ahead of a year; the calendar's first and last year.
func TestShareExamples(t *testing.T) {
	from, to := number(t, 2023, 12, 30), number(t, 2025, 1, 2)
	for _, c := range []struct{ from, to, year, part, whole int }{
		{from, to, 2022, 0, 365}, {from, to, 2023, 2, 365}, {from, to, 2024, 366, 366}, {from, to, 2025, 2, 365}, {from, to, 2026, 0, 365},
		{number(t, 2024, 1, 1), number(t, 2024, 12, 31), 2024, 366, 366}, {number(t, 2024, 2, 10), number(t, 2024, 3, 9), 2024, 29, 366}, {number(t, 2024, 7, 1), number(t, 2024, 7, 1), 2024, 1, 366},
		{number(t, 2024, 12, 31), to, 2024, 1, 366}, {from, number(t, 2024, 1, 1), 2024, 1, 366},
		{0, api.MaxDay, 1900, 365, 365}, {0, api.MaxDay, 2000, 366, 366}, {0, api.MaxDay, 2100, 365, 365}, {0, api.MaxDay, 2199, 365, 365},
		{0, 0, 1900, 1, 365}, {api.MaxDay, api.MaxDay, 2199, 1, 365}, {0, 0, 2199, 0, 365}, {api.MaxDay, api.MaxDay, 1900, 0, 365},
	} {
		if part, whole, e := days.Share(c.from, c.to, c.year); part != c.part || whole != c.whole || e != api.OK {
			t.Errorf("P2.10: Share(%d, %d, %d) is %d of %d, error %d, not %d of %d", c.from, c.to, c.year, part, whole, e, c.part, c.whole)
		}
	}
}

// P2.10: no day and no year go ahead of a wrong order.
func TestShareRefuses(t *testing.T) {
	type span struct {
		from, to, year int
		want           api.Errno
	}
	cases := []span{{9, 5, 2000, api.ErrDaysOrder}, {1, 0, 1900, api.ErrDaysOrder}, {api.MaxDay, 0, 2199, api.ErrDaysOrder}}
	for _, n := range noDays {
		cases = append(cases, span{n, 5, 2000, api.ErrDaysRange}, span{5, n, 2000, api.ErrDaysRange}, span{n, n, 2000, api.ErrDaysRange}, span{n, 0, 2199, api.ErrDaysRange}, span{api.MaxDay, n, 1900, api.ErrDaysRange})
	}
	for _, year := range noYears {
		cases = append(cases, span{5, 9, year, api.ErrDaysRange}, span{9, 5, year, api.ErrDaysRange}, span{-1, 5, year, api.ErrDaysRange})
	}
	for _, c := range cases {
		if part, whole, e := days.Share(c.from, c.to, c.year); part != 0 || whole != 0 || e != c.want {
			t.Errorf("P2.10: Share(%d, %d, %d) is %d of %d, error %d, not error %d", c.from, c.to, c.year, part, whole, e, c.want)
		}
	}
}

// P2.15: the shares of all years are the span; each is what a count day by day gives.
func TestSharesAreTheSpan(t *testing.T) {
	for _, s := range spans() {
		counts := map[int]int{}
		for n := s[0]; n <= s[1]; n++ {
			counts[civil(n).Year()]++
		}
		sum := 0
		for year := 1900; year <= 2199; year++ {
			part, whole, e := days.Share(s[0], s[1], year)
			if e != api.OK || part != counts[year] || whole != serial(year+1, 1, 1)-serial(year, 1, 1) {
				t.Fatalf("P2.10: Share(%d, %d, %d) is %d of %d, error %d, not %d", s[0], s[1], year, part, whole, e, counts[year])
			}
			sum += part
		}
		if sum != s[1]-s[0]+1 {
			t.Fatalf("P2.15: the shares of %v are %d days", s, sum)
		}
	}
}
