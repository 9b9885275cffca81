package words_test

import (
	"fmt"
	"math/big"
	"math/rand"
	"regexp"
	"slices"
	"strings"
	"testing"
	"time"

	"levy/api"
	"levy/words"
)

// answer: what Scan tells.
type answer struct {
	l  []api.Token
	at int
	e  api.Errno
}

func scan(text string) answer {
	l, at, e := words.Scan(text)
	return answer{l, at, e}
}

func same(a, b answer) bool { return slices.Equal(a.l, b.l) && a.at == b.at && a.e == b.e }

func name(at int, s string) api.Token { return api.Token{Kind: api.TokenName, At: at, Text: s} }
func sign(at int, s string) api.Token { return api.Token{Kind: api.TokenSign, At: at, Text: s} }
func text(at int, s string) api.Token { return api.Token{Kind: api.TokenText, At: at, Text: s} }
func amount(at int, n int64) api.Token {
	return api.Token{Kind: api.TokenAmount, At: at, Num: n}
}
func count(at int, n int64) api.Token { return api.Token{Kind: api.TokenCount, At: at, Num: n} }
func date(at int, n int64) api.Token  { return api.Token{Kind: api.TokenDate, At: at, Num: n} }
func percent(at int, num, den int64) api.Token {
	return api.Token{Kind: api.TokenPercent, At: at, Num: num, Den: den}
}
func end(at int) api.Token { return api.Token{Kind: api.TokenEnd, At: at} }

// takes asks for the tokens of a text.
func takes(t *testing.T, text string, want ...api.Token) {
	t.Helper()
	if got := scan(text); !same(got, answer{l: want}) {
		t.Errorf("Scan(%s): %v, want %v", short(text), got, want)
	}
}

// refuses asks for a fault, and that its place and error are all that is told.
func refuses(t *testing.T, text string, at int, e api.Errno) {
	t.Helper()
	if got := scan(text); got.l != nil || got.at != at || got.e != e {
		t.Errorf("Scan(%s): %v, want the error %d at %d", short(text), got, e, at)
	}
}

func short(text string) string {
	if len(text) > 60 {
		return fmt.Sprintf("%.60q.. of %d bytes", text, len(text))
	}
	return fmt.Sprintf("%q", text)
}

// placeless: the tokens, At apart.
func placeless(l []api.Token) []api.Token {
	m := slices.Clone(l)
	for i := range m {
		m[i].At = 0
	}
	return m
}

// The words of the chapter once more, as expressions.
var (
	passedOver = regexp.MustCompile(`^[ \t]*(#[^\n]*)?`)
	aName      = regexp.MustCompile(`^[a-z][a-z0-9_]*`)
	aDate      = regexp.MustCompile(`^\d{4}-\d\d-\d\d`)
	aNumber    = regexp.MustCompile(`^(\d+)(?:\.(\d+))?(%?)`)
	aPart      = regexp.MustCompile(`^(?:[ !#-\[\]-~]|\\["\\])*`)
	aSign      = regexp.MustCompile(`^(?:!=|<=|>=|[(),:.=<>+*/-])`)
	goesOn     = regexp.MustCompile(`^[a-z_]`)
	datesGoOn  = regexp.MustCompile(`^[a-z_0-9]`)
)

// modelScan: Scan, by the model.
func modelScan(s string) answer {
	a := modelTokens(s)
	if a.e != api.OK {
		a.l = nil
	}
	return a
}

// modelTokens: the tokens up to the first fault, and the fault, from the expressions, big numbers and the library's calendar.
func modelTokens(s string) answer {
	if len(s) > 8000 {
		return answer{e: api.ErrWordsLong}
	}
	var l []api.Token
	at, onLine := 0, 0
	for {
		at += len(passedOver.FindString(s[at:]))
		if at == len(s) || s[at] == '\n' {
			if onLine > 0 {
				l = append(l, end(at))
			}
			if at == len(s) {
				return answer{l: l}
			}
			onLine, at = 0, at+1
			continue
		}
		t, n, e := modelWord(s[at:])
		if e != api.OK {
			return answer{l, at + n, e}
		}
		t.At = at
		l = append(l, t)
		onLine, at = onLine+1, at+n
	}
}

// modelWord: the first word of s and how many bytes it has, or where in s the fault is.
func modelWord(s string) (api.Token, int, api.Errno) {
	switch {
	case aName.MatchString(s):
		w := aName.FindString(s)
		if len(w) > 12 {
			return api.Token{}, 0, api.ErrWordsLong
		}
		return name(0, w), len(w), api.OK
	case aDate.MatchString(s):
		d, err := time.Parse("2006-01-02", s[:10])
		if err != nil || d.Year() < 1900 || d.Year() > 2199 || datesGoOn.MatchString(s[10:]) {
			return api.Token{}, 0, api.ErrWordsDate
		}
		first := time.Date(1900, 1, 1, 0, 0, 0, 0, time.UTC)
		return date(0, (d.Unix()-first.Unix())/86400), 10, api.OK
	case aNumber.MatchString(s):
		m := aNumber.FindStringSubmatch(s)
		if t, ok := modelNumber(m[1], m[2], m[3] != ""); ok && !goesOn.MatchString(s[len(m[0]):]) {
			return t, len(m[0]), api.OK
		}
		return api.Token{}, 0, api.ErrWordsNumber
	case s[0] == '"':
		return modelText(s)
	case aSign.MatchString(s):
		w := aSign.FindString(s)
		return sign(0, w), len(w), api.OK
	}
	return api.Token{}, 0, api.ErrWordsByte
}

func modelNumber(whole, part string, perc bool) (api.Token, bool) {
	if strings.HasPrefix(whole, "0") && whole != "0" {
		return api.Token{}, false
	}
	places := "." + part
	if part == "" {
		places = ""
	}
	n, _ := new(big.Rat).SetString(whole + places)
	hundred := big.NewRat(100, 1)
	most := func(r *big.Rat, bound int64) bool { return r.Cmp(big.NewRat(bound, 1)) <= 0 }
	switch {
	case perc:
		n.Quo(n, hundred)
		ok := len(part) <= 6 && !strings.HasSuffix(part, "0") && n.Num().Cmp(big.NewInt(1e9)) <= 0 && n.Denom().Cmp(big.NewInt(1e9)) <= 0
		return percent(0, n.Num().Int64(), n.Denom().Int64()), ok
	case part == "":
		return count(0, n.Num().Int64()), most(n, 1e9)
	}
	n.Mul(n, hundred)
	return amount(0, n.Num().Int64()), len(part) == 2 && most(n, 9999999999999)
}

func modelText(s string) (api.Token, int, api.Errno) {
	inner := aPart.FindString(s[1:])
	stop := 1 + len(inner)
	switch {
	case stop == len(s) || s[stop] == '\n':
		return api.Token{}, 0, api.ErrWordsText
	case s[stop] != '"':
		return api.Token{}, stop, api.ErrWordsText
	}
	meant := strings.NewReplacer(`\\`, `\`, `\"`, `"`).Replace(inner)
	if len(meant) > 40 {
		return api.Token{}, 0, api.ErrWordsLong
	}
	return text(0, meant), stop + 1, api.OK
}

// bits: pieces that texts are made of, words and what lies close to words.
var bits = []string{
	"a", "z9", "a_", "abcdefghijkl", "abcdefghijklm", "_", "A", "0", "00", "7", "12", "012", "1000000000", "1000000001", "12.50", "12.5", "0.05", "1.000",
	"99999999999.99", "100000000000.00", "0%", "7.25%", "12.50%", "0.000001%", "0.0000001%", "100000000000%", "100000000001%", "33.333333%", "9999999.99999%",
	"2024-02-29", "2023-02-29", "1899-12-31", "2199-12-31", "2200-01-01", "2024-2-9", "2024-13-01", "0000-00-00", "12345-01-01", ".", "%", "-", "+", "*", "/", "(", ")", ",", ":", "=", "!", "!=",
	"<", "<=", ">", ">=", "==", `"`, `""`, `"a b"`, `"a\"b"`, `"\\"`, `\`, `\"`, `"a\n"`, `"#"`, `"` + strings.Repeat("x", 40) + `"`, `"` + strings.Repeat(`\\`, 41) + `"`,
	"#", "# x", " ", "  ", "\t", "\n", "\n\n", "\r", "\x00", "\x7f", "\x80", "\xff", "é", "\u2028", "'", "$", "@", "~", "`",
}

// goodBits: pieces that can be taken, wherever blanks stand around them.
var goodBits = []string{
	"a", "z9", "abcdefghijkl", "0", "12", "1000000000", "12.50", "99999999999.99", "0%", "7.25%", "0.000001%", "100000000000%", "2024-02-29", "2199-12-31",
	".", "-", "(", "!=", "<", "<=", "<>", "a.b", "3-4", "f(x)", "1.25.", `""`, `"a \" \\ b"`, "#", "# \"x", "\n", "\n", "\t",
}

func made(r *rand.Rand, pieces []string, between string) string {
	var b strings.Builder
	for range r.Intn(12) {
		b.WriteString(pieces[r.Intn(len(pieces))] + between)
	}
	return b.String()
}
