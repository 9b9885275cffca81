package days

import (
	"iter"

	"levy/api"
)

// Add tells the day so many months later: the same day of the month, or the month's last.
func Add(n, months int) (int, api.Errno) {
	if !isDay(n) {
		return 0, api.ErrDaysRange
	}
	d := dateOf(n)
	at := monthOf(d)
	// The months are held against what is left on each side, since a sum with the greatest ones would wrap round.
	if months < -at || months >= allMonths-at {
		return 0, api.ErrDaysRange
	}
	year, month := firstYear+(at+months)/12, (at+months)%12+1
	return numberOf(api.Date{Year: year, Month: month, Day: min(d.Day, Last(year, month))}), api.OK
}

// monthOf tells which of the calendar's months a date lies in, from 0 on.
func monthOf(d api.Date) int { return (d.Year-firstYear)*12 + d.Month - 1 }

// Between tells how many whole months lie from a to b.
func Between(a, b int) (int, api.Errno) {
	if !isDay(a) || !isDay(b) {
		return 0, api.ErrDaysRange
	}
	if b < a {
		return -wholeMonths(b, a), api.OK
	}
	return wholeMonths(a, b), api.OK
}

// wholeMonths counts from a day to one that isn't below it.
func wholeMonths(a, b int) int {
	months := monthOf(dateOf(b)) - monthOf(dateOf(a))
	// b's own month is in the calendar, so Add refuses nothing here.
	if n, _ := Add(a, months); n > b {
		months--
	}
	return months
}

// Age tells how many whole years lie from a birth to a day.
func Age(birth, at int) (int, api.Errno) {
	if e := inOrder(birth, at); e != api.OK {
		return 0, e
	}
	born, year := dateOf(birth), dateOf(at).Year
	if birthday(born, year) > at {
		return year - born.Year - 1, api.OK
	}
	return year - born.Year, api.OK
}

// birthday tells the day of a year that is the birthday of who is born on a date.
func birthday(born api.Date, year int) int {
	if born.Day > Last(year, born.Month) {
		return numberOf(api.Date{Year: year, Month: born.Month + 1, Day: 1})
	}
	return numberOf(api.Date{Year: year, Month: born.Month, Day: born.Day})
}

// inOrder refuses a span that isn't one of days, or that runs backward.
func inOrder(from, to int) api.Errno {
	if !isDay(from) || !isDay(to) {
		return api.ErrDaysRange
	}
	if to < from {
		return api.ErrDaysOrder
	}
	return api.OK
}

// Held tells whether a thing was held for more than a year.
func Held(bought, sold int) (bool, api.Errno) {
	if e := inOrder(bought, sold); e != api.OK {
		return false, e
	}
	year, e := Add(bought, 12)
	return e == api.OK && sold > year, api.OK
}

// Due tells the first day from n on that is a working day: no Saturday, no Sunday, none of off.
func Due(n int, off []int) (int, api.Errno) {
	if !isDay(n) {
		return 0, api.ErrDaysRange
	}
	free := daysFrom(n, off)
	for day := n; day <= api.MaxDay; day++ {
		if _, is := free[day]; !is && weekdayOf(day) < 6 {
			return day, api.OK
		}
	}
	return 0, api.ErrDaysRange
}

// daysFrom makes a set of a list, so that a long list isn't gone through again at each day. Numbers that can't matter
// are left out: the set never outgrows the calendar.
func daysFrom(n int, list []int) map[int]struct{} {
	set := map[int]struct{}{}
	for _, day := range list {
		if n <= day && day <= api.MaxDay {
			set[day] = struct{}{}
		}
	}
	return set
}

// Months gives the months that have days from from to to: its first such day, how many.
func Months(from, to int) iter.Seq2[api.Date, int] {
	first, last := max(from, 0), min(to, api.MaxDay)
	return func(yield func(api.Date, int) bool) {
		for n := first; n <= last; {
			d := dateOf(n)
			end := min(n+Last(d.Year, d.Month)-d.Day, last)
			if !yield(d, end-n+1) {
				return
			}
			n = end + 1
		}
	}
}

// Share tells how many days from from to to lie in a year, and how many the year has.
func Share(from, to, year int) (part, whole int, e api.Errno) {
	if !isYear(year) {
		return 0, 0, api.ErrDaysRange
	}
	if e := inOrder(from, to); e != api.OK {
		return 0, 0, e
	}
	start, next := yearStart(year), yearStart(year+1)
	for _, days := range Months(max(from, start), min(to, next-1)) {
		part += days
	}
	return part, next - start, api.OK
}
