package rules

import (
	"strconv"
	"strings"

	"levy/api"
	"levy/words"
)

// percentText tells a ratio's text as a percent, with a - ahead of one below 0; false: it has none.
func percentText(num, den int64) (string, bool) {
	if num >= 0 {
		return words.Percent(num, den)
	}
	text, ok := words.Percent(-num, den)
	return "-" + text, ok
}

func rateText(rate int64) string {
	text, ok := percentText(rate, millionths)
	if !ok {
		panic(api.ErrRulesPrint)
	}
	return text
}

// ratioText tells a percent only where that is read as the same two numbers.
func ratioText(num, den int64) string {
	text, ok := percentText(num, den)
	if ok && readsAs(strings.TrimPrefix(text, "-"), max(num, -num), den) {
		return text
	}
	return strconv.FormatInt(num, 10) + "/" + strconv.FormatInt(den, 10)
}

func readsAs(text string, num, den int64) bool {
	tokens, _, e := words.Scan(text)
	return e == api.OK && tokens[0].Num == num && tokens[0].Den == den
}

// dayText tells a date's text as layer 4 writes it: a line of that one token, its end left out.
func dayText(n int64) string {
	line, e := words.Print([]api.Token{{Kind: api.TokenDate, Num: n}, {Kind: api.TokenEnd}})
	if e != api.OK {
		panic(api.ErrRulesPrint)
	}
	return strings.TrimSuffix(line, "\n")
}

func flagText(n int64) string {
	if n == 0 {
		return "no"
	}
	return "yes"
}
