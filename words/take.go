package words

import (
	"strconv"
	"strings"

	"levy/api"
	"levy/days"
)

// How many bytes the text of a date has.
const dateLen = 10

// How many digits a percent may have behind the point.
const percentPlaces = 6

// word takes the word at a place: its token, and where it ends; or the place of its fault.
func word(text string, at int) (api.Token, int, api.Errno) {
	switch classAt(text, at) {
	case letter:
		return name(text, at)
	case digit:
		return dateOrNumber(text, at)
	case quote:
		return quoted(text, at)
	}
	return sign(text, at)
}

// fault is what the takers of words answer where there is none.
func fault(at int, e api.Errno) (api.Token, int, api.Errno) {
	return api.Token{At: at}, 0, e
}

func name(text string, at int) (api.Token, int, api.Errno) {
	end := runEnd(text, at, letter|digit|under)
	if end-at > api.MaxName {
		return fault(at, api.ErrWordsLong)
	}
	// A copy, so that a name that is kept doesn't keep the whole text.
	return api.Token{Kind: api.TokenName, At: at, Text: strings.Clone(text[at:end])}, end, api.OK
}

func dateOrNumber(text string, at int) (api.Token, int, api.Errno) {
	end := min(at+dateLen, len(text))
	day, _, e := days.Parse(text[at:end])
	if e == api.ErrDaysForm {
		return number(text, at)
	}
	if e != api.OK || classAt(text, end)&(letter|under|digit) != 0 {
		return fault(at, api.ErrWordsDate)
	}
	return api.Token{Kind: api.TokenDate, At: at, Num: int64(day)}, end, api.OK
}

func number(text string, at int) (api.Token, int, api.Errno) {
	end := runEnd(text, at, digit)
	whole, part := text[at:end], ""
	if strings.HasPrefix(text[end:], ".") && classAt(text, end+1) == digit {
		point := end
		end = runEnd(text, point+1, digit)
		part = text[point+1 : end]
	}
	percent := strings.HasPrefix(text[end:], "%")
	if percent {
		end++
	}
	t, ok := numberToken(whole, part, percent)
	if !ok || classAt(text, end)&(letter|under) != 0 {
		return fault(at, api.ErrWordsNumber)
	}
	t.At = at
	return t, end, api.OK
}

// numberToken tells the token of the digits ahead of the point and behind it (none: there is no point).
func numberToken(whole, part string, percent bool) (api.Token, bool) {
	n, err := strconv.ParseInt(whole+part, 10, 64)
	if err != nil || len(whole) > 1 && whole[0] == '0' {
		return api.Token{}, false
	}
	switch {
	case percent:
		return percentToken(n, part)
	case part == "":
		return api.Token{Kind: api.TokenCount, Num: n}, n <= api.MaxCount
	}
	return api.Token{Kind: api.TokenAmount, Num: n}, len(part) == 2 && n <= api.MaxCents
}

// percentToken tells the token of a percent whose digits, the point left out, are n.
func percentToken(n int64, part string) (api.Token, bool) {
	if len(part) > percentPlaces || strings.HasSuffix(part, "0") {
		return api.Token{}, false
	}
	den := int64(100)
	for range part {
		den *= 10
	}
	by := divisor(n, den)
	n, den = n/by, den/by
	return api.Token{Kind: api.TokenPercent, Num: n, Den: den}, n <= api.MaxRatio && den <= api.MaxRatio
}

// divisor tells the greatest common one of a number from 0 on and one above 0.
func divisor(a, b int64) int64 {
	for a != 0 {
		a, b = b%a, a
	}
	return b
}

func quoted(text string, at int) (api.Token, int, api.Errno) {
	var meant []byte
	first, end, escape := at+1, 0, -1 // escape: where the backslash stands that is directly ahead
closing:
	for i, r := range text[first:] {
		switch {
		case escape >= 0 && r != '"' && r != '\\':
			return fault(escape, api.ErrWordsText)
		case escape >= 0:
			meant, escape = append(meant, byte(r)), -1
		case r == '\\':
			escape = first + i
		case r == '"':
			end = first + i + 1
			break closing
		case r == '\n':
			break closing
		case !shown(r):
			return fault(first+i, api.ErrWordsText)
		default:
			meant = append(meant, byte(r))
		}
	}
	switch {
	case escape >= 0:
		return fault(escape, api.ErrWordsText)
	case end == 0:
		return fault(at, api.ErrWordsText)
	case len(meant) > api.MaxText:
		return fault(at, api.ErrWordsLong)
	}
	return api.Token{Kind: api.TokenText, At: at, Text: string(meant)}, end, api.OK
}

func sign(text string, at int) (api.Token, int, api.Errno) {
	for _, s := range signs {
		if strings.HasPrefix(text[at:], s) {
			return api.Token{Kind: api.TokenSign, At: at, Text: s}, at + len(s), api.OK
		}
	}
	return fault(at, api.ErrWordsByte)
}
