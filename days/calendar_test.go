package days_test

import (
	"math"
	"testing"

	"levy/api"
	"levy/days"
)

// P2.1: by the rule, of years far beyond the calendar and below 0 too.
func TestLeapOfAnyYear(t *testing.T) {
	for year, want := range map[int]bool{
		1896: true, 1899: false, 1900: false, 1904: true, 1999: false, 2000: true, 2023: false, 2024: true, 2100: false, 2199: false,
		2200: false, 2400: true, 0: true, 1: false, 2: false, 4: true, 100: false, 400: true, -1: false, -4: true, -100: false, -400: true,
		math.MaxInt: false, math.MinInt: true, math.MaxInt - 3: true, 9223372036854775600: true, 9223372036854775700: false,
	} {
		if days.Leap(year) != want {
			t.Errorf("P2.1: Leap(%d) is %v", year, !want)
		}
	}
}

// P2.1: every year from -800 on, by the rule spelt out another way.
func TestLeapYearsByCycles(t *testing.T) {
	for year := -800; year <= 2800; year++ {
		fours, hundreds, cycles := year&3 == 0, year/100*100 == year, year/400*400 == year
		want := cycles
		if !hundreds {
			want = fours
		}
		if days.Leap(year) != want {
			t.Errorf("P2.1: Leap(%d) is %v", year, !want)
		}
	}
}

// P2.1: all months of the calendar's years and of some about it.
func TestLastDayOfMonths(t *testing.T) {
	for year := 1880; year <= 2220; year++ {
		for month := 1; month <= 12; month++ {
			if last, want := days.Last(year, month), serial(year, month+1, 1)-serial(year, month, 1); last != want {
				t.Errorf("P2.1: Last(%d, %d) is %d, not %d", year, month, last, want)
			}
		}
	}
	for _, c := range []struct{ year, month, want int }{
		{math.MinInt, 2, 29}, {math.MaxInt, 2, 28}, {math.MaxInt, 12, 31}, {-4, 2, 29}, {-100, 2, 28}, {0, 2, 29}, {-7, 4, 30},
	} {
		if last := days.Last(c.year, c.month); last != c.want {
			t.Errorf("P2.1: Last(%d, %d) is %d, not %d", c.year, c.month, last, c.want)
		}
	}
}

// P2.1: no month, no days.
func TestLastOfNoMonth(t *testing.T) {
	for _, month := range []int{0, 13, -1, -2, 14, 24, math.MaxInt, math.MinInt} {
		for _, year := range []int{2024, 2023, 0, math.MaxInt, math.MinInt} {
			if last := days.Last(year, month); last != 0 {
				t.Errorf("P2.1: Last(%d, %d) is %d, not 0", year, month, last)
			}
		}
	}
}

// P2.2: the document's examples, and the ends of the calendar.
func TestNumberOfDates(t *testing.T) {
	for _, c := range []struct {
		year, month, day, n int
		e                   api.Errno
	}{
		{1900, 1, 1, 0, api.OK}, {1900, 1, 31, 30, api.OK}, {1900, 2, 28, 58, api.OK}, {1900, 3, 1, 59, api.OK},
		{2000, 2, 29, 36583, api.OK}, {2199, 12, 31, api.MaxDay, api.OK},
		{1900, 2, 29, 0, api.ErrDaysDate}, {2100, 2, 29, 0, api.ErrDaysDate}, {2023, 2, 29, 0, api.ErrDaysDate}, {2024, 2, 30, 0, api.ErrDaysDate},
		{1899, 12, 31, 0, api.ErrDaysRange}, {2200, 1, 1, 0, api.ErrDaysRange},
	} {
		if n, e := days.Number(c.year, c.month, c.day); n != c.n || e != c.e {
			t.Errorf("P2.2: Number(%d, %d, %d) is %d, error %d, not %d, error %d", c.year, c.month, c.day, n, e, c.n, c.e)
		}
	}
}

// P2.2: each bound of month and day and one past it; ahead of the year, whatever that is.
func TestNumberOfNoDate(t *testing.T) {
	for _, year := range append([]int{1900, 2023, 2024, 2100, 2199}, noYears...) {
		for _, c := range [][2]int{{0, 1}, {13, 1}, {-1, 1}, {math.MaxInt, 1}, {math.MinInt, 1}, {0, 0}, {13, 0}, {1, 0}, {1, 32}, {1, -1}, {4, 31}, {4, 0}, {2, 30}, {12, 32}, {12, math.MaxInt}, {12, math.MinInt}} {
			if n, e := days.Number(year, c[0], c[1]); n != 0 || e != api.ErrDaysDate {
				t.Errorf("P2.2: Number(%d, %d, %d) is %d, error %d, not ErrDaysDate", year, c[0], c[1], n, e)
			}
		}
	}
	if n, e := days.Number(2202, 2, 29); n != 0 || e != api.ErrDaysDate {
		t.Errorf("P2.2: Number(2202, 2, 29) is %d, error %d, not ErrDaysDate: that year is a common one", n, e)
	}
}

// P2.2: a date that there is, in a year that the calendar hasn't.
func TestNumberBeyondTheCalendar(t *testing.T) {
	for _, year := range noYears {
		for _, c := range [][2]int{{1, 1}, {2, 28}, {12, 31}} {
			if n, e := days.Number(year, c[0], c[1]); n != 0 || e != api.ErrDaysRange {
				t.Errorf("P2.2: Number(%d, %d, %d) is %d, error %d, not ErrDaysRange", year, c[0], c[1], n, e)
			}
		}
	}
	if n, e := days.Number(2204, 2, 29); n != 0 || e != api.ErrDaysRange {
		t.Errorf("P2.2: Number(2204, 2, 29) is %d, error %d, not ErrDaysRange: that year is a leap year", n, e)
	}
}

// P2.2, P2.3, P2.13: every day of the calendar, held against the library's calendar; and the weekdays.
func TestEveryDay(t *testing.T) {
	for n := 0; n <= api.MaxDay; n++ {
		c := civil(n)
		want := api.Date{Year: c.Year(), Month: int(c.Month()), Day: c.Day()}
		if d, e := days.Date(n); d != want || e != api.OK {
			t.Fatalf("P2.3: Date(%d) is %v, error %d, not %v", n, d, e, want)
		}
		if back, e := days.Number(want.Year, want.Month, want.Day); back != n || e != api.OK {
			t.Fatalf("P2.13: Number of %v is %d, error %d, not %d", want, back, e, n)
		}
		if w, e := days.Weekday(n); w != (int(c.Weekday())+6)%7+1 || e != api.OK {
			t.Fatalf("P2.3: Weekday(%d) is %d, error %d; it is a %v", n, w, e, c.Weekday())
		}
	}
}

// P2.3: numbers that are no days.
func TestDateOfNoDay(t *testing.T) {
	for _, n := range noDays {
		if d, e := days.Date(n); d != (api.Date{}) || e != api.ErrDaysRange {
			t.Errorf("P2.3: Date(%d) is %v, error %d, not ErrDaysRange", n, d, e)
		}
		if w, e := days.Weekday(n); w != 0 || e != api.ErrDaysRange {
			t.Errorf("P2.3: Weekday(%d) is %d, error %d, not ErrDaysRange", n, w, e)
		}
	}
}

// P2.3: the document's weekdays.
func TestWeekdays(t *testing.T) {
	for n, want := range map[int]int{0: 1, 4: 5, 5: 6, 6: 7, 7: 1, 36583: 2, api.MaxDay: 2} {
		if w, e := days.Weekday(n); w != want || e != api.OK {
			t.Errorf("P2.3: Weekday(%d) is %d, error %d, not %d", n, w, e, want)
		}
	}
}

// P2.13: every date that Last allows has a number, the next one behind that of the date ahead of it.
func TestDatesFollowOneAnother(t *testing.T) {
	next := 0
	for year := 1900; year <= 2199; year++ {
		for month := 1; month <= 12; month++ {
			for day := 1; day <= days.Last(year, month); day++ {
				if n := number(t, year, month, day); n != next {
					t.Fatalf("P2.13: Number(%d, %d, %d) is %d, not %d", year, month, day, n, next)
				}
				if d := date(t, next); d != (api.Date{Year: year, Month: month, Day: day}) {
					t.Fatalf("P2.13: Date(%d) is %v", next, d)
				}
				next++
			}
		}
	}
	if next != api.MaxDay+1 {
		t.Errorf("P2.13: the calendar has %d days, not %d", next, api.MaxDay+1)
	}
}
