package words

import (
	"strconv"
	"strings"

	"levy/api"
	"levy/days"
)

// Print tells the one text of a list of tokens.
func Print(l []api.Token) (string, api.Errno) {
	var text []byte
	fresh := true // whether a line begins here
	for _, t := range l {
		ends := t.Kind == api.TokenEnd
		if fresh && ends {
			return "", api.ErrWordsPrint
		}
		s, ok := written(t)
		if !ok {
			return "", api.ErrWordsPrint
		}
		if !fresh && !ends {
			text = append(text, ' ')
		}
		text = append(text, s...)
		if len(text) > api.MaxRuleText {
			return "", api.ErrWordsPrint
		}
		fresh = ends
	}
	if !fresh {
		return "", api.ErrWordsPrint
	}
	return string(text), api.OK
}

// written tells a token's text; false, if what is taken from the text isn't that token: then no text has it.
func written(t api.Token) (string, bool) {
	t.At = 0
	if t.Kind == api.TokenEnd {
		return "\n", t == api.Token{Kind: api.TokenEnd}
	}
	s := spelled(t)
	taken, end, e := word(s, 0)
	return s, e == api.OK && end == len(s) && taken == t
}

// spelled tells what a token's text is if it has one.
func spelled(t api.Token) string {
	s := ""
	switch t.Kind {
	case api.TokenName, api.TokenSign:
		s = t.Text
	case api.TokenAmount:
		s = Amount(t.Num)
	case api.TokenCount:
		s = strconv.FormatInt(t.Num, 10)
	case api.TokenPercent:
		s, _ = Percent(t.Num, t.Den)
	case api.TokenDate:
		s, _ = days.Print(int(t.Num))
	case api.TokenText:
		s, _ = Quote(t.Text)
	}
	return s
}

// Amount tells the text of cents.
func Amount(cents int64) string {
	ahead, size := "", uint64(cents)
	if cents < 0 {
		// The least number has no opposite of its own type.
		ahead, size = "-", -size
	}
	return ahead + strconv.FormatUint(size/100, 10) + "." + padded(size%100, 2)
}

// Percent tells the text of a ratio; false: it has none.
func Percent(num, den int64) (string, bool) {
	if num < 0 || num > api.MaxRatio || den < 1 || den > api.MaxRatio {
		return "", false
	}
	const millionths = 1000000 // of one percent: percentPlaces digits
	size := uint64(num) * 100 * millionths
	if size%uint64(den) != 0 {
		return "", false
	}
	size /= uint64(den)
	text := strconv.FormatUint(size/millionths, 10)
	if part := size % millionths; part != 0 {
		text += "." + strings.TrimRight(padded(part, percentPlaces), "0")
	}
	return text + "%", true
}

// padded tells a number in so many digits at least.
func padded(n uint64, width int) string {
	s := strconv.FormatUint(n, 10)
	return strings.Repeat("0", max(width-len(s), 0)) + s
}

// Quote tells the text of a text; false: it has none.
func Quote(s string) (string, bool) {
	if len(s) > api.MaxText {
		return "", false
	}
	text := []byte{'"'}
	for _, r := range s {
		if !shown(r) {
			return "", false
		}
		if r == '"' || r == '\\' {
			text = append(text, '\\')
		}
		text = append(text, byte(r))
	}
	return string(append(text, '"')), true
}
