package days_test

import (
	"math"
	"testing"

	"levy/api"
	"levy/days"
)

// P2.4: the document's examples, and the first and the last month of the calendar.
func TestAddMonths(t *testing.T) {
	jan := number(t, 2023, 1, 31)
	for _, c := range []struct{ n, months, want int }{
		{jan, 0, jan}, {jan, 1, number(t, 2023, 2, 28)}, {jan, 13, number(t, 2024, 2, 29)}, {jan, -2, number(t, 2022, 11, 30)},
		{jan, 2, number(t, 2023, 3, 31)}, {jan, -1, number(t, 2022, 12, 31)}, {jan, -13, number(t, 2021, 12, 31)}, {jan, 12, number(t, 2024, 1, 31)},
		{number(t, 2024, 2, 29), 12, number(t, 2025, 2, 28)}, {number(t, 2024, 2, 29), 48, number(t, 2028, 2, 29)}, {number(t, 2024, 2, 29), -12, number(t, 2023, 2, 28)},
		{0, 3599, number(t, 2199, 12, 1)}, {30, 3599, api.MaxDay}, {api.MaxDay, -3599, 30}, {api.MaxDay, 0, api.MaxDay}, {api.MaxDay, -3598, number(t, 1900, 2, 28)},
	} {
		if n, e := days.Add(c.n, c.months); n != c.want || e != api.OK {
			t.Errorf("P2.4: Add(%d, %d) is %d, error %d, not %d", c.n, c.months, n, e, c.want)
		}
	}
}

// P2.4: held against the library's calendar: the month's first day, and how many days it has.
func TestAddAgainstTheLibrary(t *testing.T) {
	for _, n := range picks() {
		d := civil(n)
		at := (d.Year()-1900)*12 + int(d.Month()) - 1
		for _, to := range []int{0, 1, 2, at - 25, at - 13, at - 12, at - 11, at - 1, at, at + 1, at + 2, at + 11, at + 12, at + 13, at + 48, 3598, 3599} {
			if to < 0 || to > 3599 {
				continue
			}
			first, next := serial(1900, to+1, 1), serial(1900, to+2, 1)
			want := min(first+d.Day()-1, next-1)
			if got, e := days.Add(n, to-at); got != want || e != api.OK {
				t.Fatalf("P2.4: Add(%d, %d) is %d, error %d, not %d", n, to-at, got, e, want)
			}
		}
	}
}

// P2.4: one month past each end, months that would wrap round, and no days.
func TestAddBeyondTheCalendar(t *testing.T) {
	for _, c := range [][2]int{
		{0, -1}, {30, -1}, {31, -2}, {0, 3600}, {30, 3600}, {31, 3599}, {api.MaxDay, 1}, {api.MaxDay, -3600}, {api.MaxDay - 31, 2}, {5, 3600}, {5, -3600},
		{5, math.MaxInt}, {5, math.MinInt}, {api.MaxDay, math.MaxInt}, {api.MaxDay, math.MinInt}, {api.MaxDay, math.MaxInt - 3599},
		{5, 1 << 32}, {5, -1 << 32}, {5, 1<<32 + 1}, {0, math.MinInt + 1},
	} {
		if n, e := days.Add(c[0], c[1]); n != 0 || e != api.ErrDaysRange {
			t.Errorf("P2.4: Add(%d, %d) is %d, error %d, not ErrDaysRange", c[0], c[1], n, e)
		}
	}
	for _, n := range noDays {
		for _, months := range []int{0, 1, -1, 3599, -3599, math.MaxInt, math.MinInt} {
			if got, e := days.Add(n, months); got != 0 || e != api.ErrDaysRange {
				t.Errorf("P2.4: Add(%d, %d) is %d, error %d, not ErrDaysRange", n, months, got, e)
			}
		}
	}
}

// P2.14: a greater day never gives an earlier one, nor do more months.
func TestAddKeepsTheOrder(t *testing.T) {
	for _, months := range []int{0, 1, -1, 11, 12, -12, 13, 25, -25, 1200, -1200} {
		last := -1
		for n := 0; n <= api.MaxDay; n++ {
			got, e := days.Add(n, months)
			if e != api.OK {
				continue
			}
			if got < last {
				t.Fatalf("P2.14: Add(%d, %d) is %d, and that of a lesser day %d", n, months, got, last)
			}
			last = got
		}
	}
	for _, n := range picks() {
		last := -1
		for months := -3600; months <= 3600; months++ {
			got, e := days.Add(n, months)
			if e == api.OK && got < last {
				t.Fatalf("P2.14: Add(%d, %d) is %d, and that of fewer months %d", n, months, got, last)
			}
			if e == api.OK {
				last = got
			}
		}
	}
}

// P2.14: whole years keep the month and the day, but for 29 February.
func TestAddWholeYears(t *testing.T) {
	for n := 0; n <= api.MaxDay; n++ {
		was := date(t, n)
		for _, years := range []int{1, 4, -1, 100} {
			got, e := days.Add(n, 12*years)
			if inside := was.Year+years >= 1900 && was.Year+years <= 2199; inside != (e == api.OK) {
				t.Fatalf("P2.4: Add(%d, %d): error %d", n, 12*years, e)
			}
			if e != api.OK {
				continue
			}
			is := date(t, got)
			same := is.Month == was.Month && is.Day == was.Day
			february := is.Month == 2 && is.Day == 28 && was.Month == 2 && was.Day == 29 && !days.Leap(is.Year)
			if is.Year != was.Year+years || !same && !february {
				t.Fatalf("P2.14: %v and %d years: %v", was, years, is)
			}
		}
	}
}

// P2.5: the document's examples, and the whole calendar.
func TestBetweenExamples(t *testing.T) {
	for _, c := range []struct{ a, b, want int }{
		{number(t, 2023, 1, 31), number(t, 2023, 2, 28), 1}, {number(t, 2023, 2, 28), number(t, 2023, 1, 31), -1}, {number(t, 2023, 1, 30), number(t, 2023, 2, 27), 0},
		{number(t, 2023, 2, 28), number(t, 2023, 3, 31), 1}, {number(t, 2023, 3, 31), number(t, 2023, 2, 28), -1},
		{number(t, 2020, 2, 29), number(t, 2021, 2, 28), 12}, {number(t, 2020, 2, 29), number(t, 2021, 2, 27), 11},
		{0, 0, 0}, {0, 30, 0}, {0, 31, 1}, {0, api.MaxDay, 3599}, {api.MaxDay, 0, -3599}, {1, api.MaxDay, 3599}, {api.MaxDay, api.MaxDay, 0},
	} {
		if m, e := days.Between(c.a, c.b); m != c.want || e != api.OK {
			t.Errorf("P2.5: Between(%d, %d) is %d, error %d, not %d", c.a, c.b, m, e, c.want)
		}
	}
}

// P2.5: the promise's own words: the greatest m for which Add(a, m) isn't above b; backward the opposite.
func TestBetweenIsTheGreatest(t *testing.T) {
	list := picks()
	for i, a := range list {
		for j := i; j < len(list); j += 7 {
			low, high := min(a, list[j]), max(a, list[j])
			m, e := days.Between(low, high)
			if e != api.OK || m < 0 || add(t, low, m) > high {
				t.Fatalf("P2.5: Between(%d, %d) is %d, error %d", low, high, m, e)
			}
			if next, e := days.Add(low, m+1); e == api.OK && next <= high {
				t.Fatalf("P2.5: Between(%d, %d) is %d, and one more lies within too", low, high, m)
			}
			if back, e := days.Between(high, low); back != -m || e != api.OK {
				t.Fatalf("P2.5: Between(%d, %d) is %d, error %d, not %d", high, low, back, e, -m)
			}
		}
	}
}

// P2.5: no days, in either place.
func TestBetweenNoDays(t *testing.T) {
	for _, n := range noDays {
		for _, c := range [][2]int{{n, 5}, {5, n}, {n, n}, {n, api.MaxDay}, {0, n}} {
			if m, e := days.Between(c[0], c[1]); m != 0 || e != api.ErrDaysRange {
				t.Errorf("P2.5: Between(%d, %d) is %d, error %d, not ErrDaysRange", c[0], c[1], m, e)
			}
		}
	}
}

// P2.6: the document's examples, and those born on 29 February in common years.
func TestAgeExamples(t *testing.T) {
	leap, june := number(t, 2000, 2, 29), number(t, 1990, 6, 15)
	for _, c := range []struct{ birth, at, want int }{
		{leap, leap, 0}, {leap, number(t, 2001, 2, 28), 0}, {leap, number(t, 2001, 3, 1), 1}, {leap, number(t, 2004, 2, 28), 3}, {leap, number(t, 2004, 2, 29), 4},
		{leap, number(t, 2100, 2, 28), 99}, {leap, number(t, 2100, 3, 1), 100},
		{june, june, 0}, {june, number(t, 1990, 12, 31), 0}, {june, number(t, 1991, 6, 14), 0}, {june, number(t, 2008, 6, 14), 17}, {june, number(t, 2008, 6, 15), 18},
		{0, api.MaxDay, 299}, {0, 364, 0}, {0, 365, 1}, {api.MaxDay, api.MaxDay, 0}, {364, api.MaxDay, 299}, {364, api.MaxDay - 1, 298},
	} {
		if age, e := days.Age(c.birth, c.at); age != c.want || e != api.OK {
			t.Errorf("P2.6: Age(%d, %d) is %d, error %d, not %d", c.birth, c.at, age, e, c.want)
		}
	}
}

// P2.6: the promise's own words: how many birthdays behind birth aren't above at. The library lets a 29 February run on into March by itself.
func TestAgeCountsBirthdays(t *testing.T) {
	list := append(picks(), serial(1904, 2, 29), serial(1999, 2, 28), serial(2000, 2, 29), serial(2096, 2, 29))
	for i, birth := range list {
		born := civil(birth)
		for j := i % 5; j < len(list); j += 5 {
			at := list[j]
			if at < birth {
				continue
			}
			want := 0
			for year := born.Year() + 1; serial(year, int(born.Month()), born.Day()) <= at; year++ {
				want++
			}
			if age, e := days.Age(birth, at); age != want || e != api.OK {
				t.Fatalf("P2.6: Age(%d, %d) is %d, error %d, not %d", birth, at, age, e, want)
			}
		}
	}
}

// P2.7: the document's examples, and what is bought too late for a year to end in the calendar.
func TestHeldExamples(t *testing.T) {
	jan, leap, last := number(t, 2023, 1, 15), number(t, 2024, 2, 29), number(t, 2198, 12, 30)
	for _, c := range []struct {
		bought, sold int
		want         bool
	}{
		{jan, jan, false}, {jan, number(t, 2024, 1, 15), false}, {jan, number(t, 2024, 1, 16), true}, {jan, api.MaxDay, true},
		{leap, number(t, 2025, 2, 28), false}, {leap, number(t, 2025, 3, 1), true},
		{last, api.MaxDay - 1, false}, {last, api.MaxDay, true}, {last + 1, api.MaxDay, false}, {last + 2, api.MaxDay, false}, {api.MaxDay, api.MaxDay, false},
		{0, 365, false}, {0, 366, true}, {0, 0, false},
	} {
		if held, e := days.Held(c.bought, c.sold); held != c.want || e != api.OK {
			t.Errorf("P2.7: Held(%d, %d) is %v, error %d, not %v", c.bought, c.sold, held, e, c.want)
		}
	}
}

// P2.7: held against Add, about the day that decides.
func TestHeldIsMoreThanAYear(t *testing.T) {
	for _, bought := range picks() {
		year, e := days.Add(bought, 12)
		for _, sold := range []int{bought, bought + 1, bought + 364, bought + 365, bought + 366, bought + 367, bought + 800} {
			if sold > api.MaxDay {
				continue
			}
			want := e == api.OK && sold > year
			if held, e := days.Held(bought, sold); held != want || e != api.OK {
				t.Fatalf("P2.7: Held(%d, %d) is %v, error %d, not %v", bought, sold, held, e, want)
			}
		}
	}
}

// P2.6, P2.7: no days go ahead of a wrong order.
func TestAgeAndHeldRefuse(t *testing.T) {
	type pair struct {
		a, b int
		want api.Errno
	}
	cases := []pair{{10, 9, api.ErrDaysOrder}, {1, 0, api.ErrDaysOrder}, {api.MaxDay, 0, api.ErrDaysOrder}, {api.MaxDay, api.MaxDay - 1, api.ErrDaysOrder}}
	for _, n := range noDays {
		cases = append(cases, pair{n, 5, api.ErrDaysRange}, pair{5, n, api.ErrDaysRange}, pair{n, n, api.ErrDaysRange}, pair{api.MaxDay, n, api.ErrDaysRange}, pair{n, 0, api.ErrDaysRange})
	}
	for _, c := range cases {
		if age, e := days.Age(c.a, c.b); age != 0 || e != c.want {
			t.Errorf("P2.6: Age(%d, %d) is %d, error %d, not error %d", c.a, c.b, age, e, c.want)
		}
		if held, e := days.Held(c.a, c.b); held || e != c.want {
			t.Errorf("P2.7: Held(%d, %d) is %v, error %d, not error %d", c.a, c.b, held, e, c.want)
		}
	}
}
