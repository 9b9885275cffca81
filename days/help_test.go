package days_test

import (
	"math"
	"math/rand"
	"testing"
	"time"

	"levy/api"
	"levy/days"
)

// noDays: numbers one past each end of the calendar, and the farthest ones.
var noDays = []int{-1, api.MaxDay + 1, -api.MaxDay, math.MaxInt, math.MinInt, math.MaxInt32 + 1, math.MinInt32 - 1, 1 << 40}

// noYears: the same of years.
var noYears = []int{1899, 2200, 0, -1, -2000, 9999, math.MaxInt, math.MinInt}

// civil tells a day by the library's calendar, which the program doesn't use.
func civil(n int) time.Time {
	return time.Date(1900, 1, 1+n, 0, 0, 0, 0, time.UTC)
}

// serial tells the number of a date by the library's calendar; a date that overflows its month runs on.
func serial(year, month, day int) int {
	t := time.Date(year, time.Month(month), day, 0, 0, 0, 0, time.UTC)
	return int((t.Unix() - civil(0).Unix()) / 86400)
}

func number(t *testing.T, year, month, day int) int {
	t.Helper()
	n, e := days.Number(year, month, day)
	if e != api.OK {
		t.Fatalf("Number(%d, %d, %d): error %d", year, month, day, e)
	}
	return n
}

func date(t *testing.T, n int) api.Date {
	t.Helper()
	d, e := days.Date(n)
	if e != api.OK {
		t.Fatalf("Date(%d): error %d", n, e)
	}
	return d
}

func add(t *testing.T, n, months int) int {
	t.Helper()
	m, e := days.Add(n, months)
	if e != api.OK {
		t.Fatalf("Add(%d, %d): error %d", n, months, e)
	}
	return m
}

// picks gives days: the ends, all of a leap year and of the common years about it, and some of the whole calendar.
func picks() []int {
	list := []int{0, 1, 30, 31, 58, 59, api.MaxDay - 366, api.MaxDay - 365, api.MaxDay - 364, api.MaxDay - 31, api.MaxDay - 30, api.MaxDay - 1, api.MaxDay}
	for n := serial(2023, 12, 1); n <= serial(2025, 3, 31); n++ {
		list = append(list, n)
	}
	random := rand.New(rand.NewSource(2))
	for range 300 {
		list = append(list, random.Intn(api.MaxDay+1))
	}
	return list
}

// spans gives pairs of days, the second not ahead of the first.
func spans() [][2]int {
	list := [][2]int{{0, 0}, {0, api.MaxDay}, {api.MaxDay, api.MaxDay}, {0, 30}, {0, 31}, {5, 5}}
	random := rand.New(rand.NewSource(3))
	for range 300 {
		from := random.Intn(api.MaxDay + 1)
		list = append(list, [2]int{from, from + random.Intn(min(1500, api.MaxDay-from+1))})
	}
	return list
}
