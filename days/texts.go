package days

import "levy/api"

// The form of a day's text: a 0 stands where a digit does.
const form = "0000-00-00"

// Print tells a day's text.
func Print(n int) (string, api.Errno) {
	if !isDay(n) {
		return "", api.ErrDaysRange
	}
	d := dateOf(n)
	text := []byte(form)
	putDigits(text[:4], d.Year)
	putDigits(text[5:7], d.Month)
	putDigits(text[8:], d.Day)
	return string(text), api.OK
}

// putDigits fills a field with a number's digits, from the last one on.
func putDigits(field []byte, n int) {
	for i := len(field) - 1; i >= 0; i-- {
		field[i] = byte('0' + n%10)
		n /= 10
	}
}

// Parse reads it, and tells the place: of the first byte that can't stand there; 0, if there is no such date; 10, if all is well.
func Parse(s string) (n, at int, e api.Errno) {
	if at := formed(s); at < len(form) || len(s) > len(form) {
		return 0, at, api.ErrDaysForm
	}
	n, e = Number(digits(s[:4]), digits(s[5:7]), digits(s[8:]))
	if e != api.OK {
		return 0, 0, e
	}
	return n, len(form), api.OK
}

// formed tells how many of a text's bytes stand as the form asks, up to the first that doesn't.
func formed(s string) int {
	for i := range len(form) {
		if i == len(s) || !fits(s[i], form[i]) {
			return i
		}
	}
	return len(form)
}

func fits(c, asked byte) bool {
	if asked == '0' {
		return '0' <= c && c <= '9'
	}
	return c == asked
}

// digits reads a number of a text that is digits alone.
func digits(s string) int {
	n := 0
	for i := range len(s) {
		n = n*10 + int(s[i]-'0')
	}
	return n
}
