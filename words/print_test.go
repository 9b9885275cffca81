package words_test

import (
	"fmt"
	"math"
	"math/big"
	"slices"
	"strings"
	"testing"

	"levy/api"
	"levy/words"
)

func prints(t *testing.T, want string, l ...api.Token) {
	t.Helper()
	if got, e := words.Print(l); got != want || e != api.OK {
		t.Errorf("Print(%v): %q, %d, want %q", l, got, e, want)
	}
}

func cannotPrint(t *testing.T, l ...api.Token) {
	t.Helper()
	if got, e := words.Print(l); got != "" || e != api.ErrWordsPrint {
		t.Errorf("Print(%.5v): %q, %d, want ErrWordsPrint", l, got, e)
	}
}

func TestP4_11Lines(t *testing.T) {
	prints(t, "")
	prints(t, "a\n", name(0, "a"), end(0))
	prints(t, "f ( x , 2.50 ) :\n7.25% \"a\\\\\" 1900-01-01\n",
		name(0, "f"), sign(0, "("), name(0, "x"), sign(0, ","), amount(0, 250), sign(0, ")"), sign(0, ":"), end(0),
		percent(0, 29, 400), text(0, `a\`), date(0, 0), end(0))
	prints(t, "a\n\"\"\n", name(7, "a"), end(-3), text(math.MaxInt, ""), end(math.MinInt))
	if s, e := words.Print([]api.Token{}); s != "" || e != api.OK {
		t.Errorf("of no tokens: %q, %d", s, e)
	}
}

func TestP4_11Ends(t *testing.T) {
	a := name(0, "a")
	cannotPrint(t, a)
	cannotPrint(t, end(0))
	cannotPrint(t, end(0), a, end(0))
	cannotPrint(t, a, end(0), end(0))
	cannotPrint(t, a, end(0), a)
	cannotPrint(t, a, end(0), end(0), a, end(0))
	prints(t, "a\na\n", a, end(0), a, end(0))
}

// Each token that may be, at its bounds.
func tellable() map[string]api.Token {
	m := map[string]api.Token{
		"a": name(0, "a"), "z_9": name(0, "z_9"), "abcdefghijkl": name(0, "abcdefghijkl"),
		"0.00": amount(0, 0), "0.07": amount(0, 7), "99999999999.99": amount(0, 9999999999999),
		"0": count(0, 0), "1000000000": count(0, 1000000000),
		"0%": percent(0, 0, 1), "100%": percent(0, 1, 1), "0.000001%": percent(0, 1, 100000000), "100000000000%": percent(0, 1000000000, 1), "12.5%": percent(0, 1, 8),
		"1900-01-01": date(0, 0), "2199-12-31": date(0, 109572),
		`""`: text(0, ""), `" ~"`: text(0, " ~"), `"\"\\"`: text(0, `"\`), `"` + strings.Repeat("x", 40) + `"`: text(0, strings.Repeat("x", 40)),
	}
	for _, s := range []string{"(", ")", ",", ":", ".", "=", "!=", "<", "<=", ">", ">=", "+", "-", "*", "/"} {
		m[s] = sign(0, s)
	}
	return m
}

func TestP4_11Tokens(t *testing.T) {
	for s, tok := range tellable() {
		prints(t, s+"\n", tok, end(0))
		prints(t, "a "+s+" "+s+"\n", name(0, "a"), tok, tok, end(0))
	}
}

func TestP4_11NoTokens(t *testing.T) {
	for _, tok := range []api.Token{
		{}, {Kind: -1}, {Kind: 9, Text: "a"}, {Kind: math.MaxInt}, {Kind: math.MinInt, Num: 1},
		name(0, ""), name(0, "A"), name(0, "9"), name(0, "_a"), name(0, "a b"), name(0, "a "), name(0, " a"), name(0, "a\n"), name(0, "aé"), name(0, "abcdefghijklm"), name(0, "("), name(0, `"a"`), name(0, "a#"),
		amount(0, -1), amount(0, 10000000000000), amount(0, math.MinInt64), amount(0, math.MaxInt64),
		count(0, -1), count(0, 1000000001), count(0, math.MinInt64), count(0, math.MaxInt64),
		percent(0, -1, 2), percent(0, 1, -2), percent(0, 1, 0), percent(0, 0, 0), percent(0, 0, 2), percent(0, 2, 8), percent(0, 1, 3), percent(0, 1, 1000000000), percent(0, 1000000001, 1), percent(0, 1, 1000000001),
		percent(0, math.MinInt64, math.MinInt64), percent(0, math.MaxInt64, 1), percent(0, 2, 2),
		date(0, -1), date(0, 109573), date(0, math.MinInt64), date(0, math.MaxInt64), date(0, 1<<32),
		text(0, "\n"), text(0, "\x1f"), text(0, "\x7f"), text(0, "é"), text(0, "\xff"), text(0, strings.Repeat("x", 41)), text(0, strings.Repeat("x", 100000)),
		sign(0, ""), sign(0, "=="), sign(0, "a"), sign(0, "!"), sign(0, " ="), sign(0, "= "), sign(0, "<>"), sign(0, "%"), sign(0, "\n"), sign(0, "12"), sign(0, `"`), sign(0, "#"), sign(0, " "),
	} {
		cannotPrint(t, tok, end(0))
		cannotPrint(t, name(0, "a"), end(0), tok, end(0))
	}
}

// Each field that a kind doesn't name.
func TestP4_11FieldsThatAreNotNamed(t *testing.T) {
	wrongs := func(tok api.Token) []api.Token {
		var l []api.Token
		u := tok
		if u.Text = "a"; tok.Text == "" && tok.Kind != api.TokenText {
			l = append(l, u)
		}
		u = tok
		if u.Den = 1; tok.Kind != api.TokenPercent {
			l = append(l, u)
		}
		u = tok
		switch u.Num = -1; tok.Kind {
		case api.TokenName, api.TokenText, api.TokenSign, api.TokenEnd:
			l = append(l, u)
		}
		return l
	}
	for _, tok := range tellable() {
		for _, u := range wrongs(tok) {
			cannotPrint(t, u, end(0))
		}
	}
	for _, u := range wrongs(end(0)) {
		cannotPrint(t, name(0, "a"), u)
	}
}

func TestP4_11Length(t *testing.T) {
	open := sign(0, "(")
	full := append(slices.Repeat([]api.Token{open}, 4000), end(0))
	if s, e := words.Print(full); s != strings.Repeat("( ", 3999)+"(\n" || e != api.OK {
		t.Errorf("8000 bytes: %d bytes, error %d", len(s), e)
	}
	full[0] = sign(0, "<=")
	cannotPrint(t, full...)
	lines := slices.Repeat([]api.Token{name(0, "abc"), end(0)}, 2000)
	if s, e := words.Print(lines); s != strings.Repeat("abc\n", 2000) || e != api.OK {
		t.Errorf("8000 bytes of lines: %d bytes, error %d", len(s), e)
	}
	cannotPrint(t, append(lines, name(0, "a"), end(0))...)
	cannotPrint(t, slices.Repeat([]api.Token{open}, 1<<20)...)
}

func TestP4_11KeepsNothing(t *testing.T) {
	room := []api.Token{name(1, "a"), end(2), sign(3, "?"), count(4, 9)}
	was := slices.Clone(room)
	s, e := words.Print(room[:2])
	if s != "a\n" || e != api.OK || !slices.Equal(room, was) {
		t.Errorf("%q, %d, %v", s, e, room)
	}
}

func TestP4_12Amount(t *testing.T) {
	for n, want := range map[int64]string{
		-5: "-0.05", 0: "0.00", 5: "0.05", 50: "0.50", 99: "0.99", -99: "-0.99", 100: "1.00", -100: "-1.00", 123456: "1234.56", 9999999999999: "99999999999.99",
		math.MaxInt64: "92233720368547758.07", math.MinInt64: "-92233720368547758.08", math.MinInt64 + 1: "-92233720368547758.07",
	} {
		if got := words.Amount(n); got != want {
			t.Errorf("Amount(%d): %q, want %q", n, got, want)
		}
	}
	for n := int64(-100000); n <= 100000; n += 37 {
		if got, want := words.Amount(n), big.NewRat(n, 100).FloatString(2); got != want {
			t.Errorf("Amount(%d): %q, want %q", n, got, want)
		}
	}
}

func TestP4_12Percent(t *testing.T) {
	for _, c := range []struct {
		num, den int64
		want     string
	}{
		{2, 8, "25%"}, {1, 4, "25%"}, {1, 3, ""}, {0, 7, "0%"}, {0, 1, "0%"}, {0, 1000000000, "0%"}, {29, 400, "7.25%"}, {1, 1, "100%"}, {1, 10, "10%"}, {1, 1000, "0.1%"}, {3, 2, "150%"},
		{1, 100000000, "0.000001%"}, {1, 200000000, ""}, {1, 1000000000, ""}, {10, 1000000000, "0.000001%"}, {1, 128000000, ""}, {1, 64, "1.5625%"}, {1, 256, "0.390625%"}, {1, 512, ""},
		{1000000000, 1, "100000000000%"}, {1000000000, 3, ""}, {1000000000, 1000000000, "100%"}, {999999999, 1000000000, ""}, {1001, 100000000, "0.001001%"},
		{1000000001, 1, ""}, {1000000001, 1000000001, ""}, {1, 1000000001, ""}, {0, 1000000001, ""}, {-1, 2, ""}, {1, -2, ""}, {-1, -2, ""}, {1, 0, ""}, {0, 0, ""},
		{math.MinInt64, math.MinInt64, ""}, {math.MaxInt64, math.MaxInt64, ""}, {math.MaxInt64, 1, ""}, {0, math.MinInt64, ""}, {1 << 32, 1 << 32, ""},
	} {
		if got, ok := words.Percent(c.num, c.den); got != c.want || ok != (c.want != "") {
			t.Errorf("Percent(%d, %d): %q, %v, want %q", c.num, c.den, got, ok, c.want)
		}
	}
}

// The shortest text that is the ratio, by the library's numbers.
func TestP4_12PercentAgainstModel(t *testing.T) {
	model := func(num, den int64) string {
		r := big.NewRat(num, den)
		r.Mul(r, big.NewRat(100, 1))
		for places := range 7 {
			s := r.FloatString(places)
			if back, _ := new(big.Rat).SetString(s); back.Cmp(r) == 0 {
				return s + "%"
			}
		}
		return ""
	}
	for num := int64(0); num < 300; num++ {
		for _, den := range []int64{1, 2, 3, 4, 5, 6, 7, 8, 9, 10, 12, 16, 25, 32, 40, 64, 100, 125, 128, 250, 256, 300, 400, 512, 625, 1000, 78125, 390625, 1000000, 1953125, 100000000, 500000000, 1000000000} {
			want := model(num, den)
			if got, ok := words.Percent(num, den); got != want || ok != (want != "") {
				t.Errorf("Percent(%d, %d): %q, %v, want %q", num, den, got, ok, want)
			}
		}
	}
}

func TestP4_12Quote(t *testing.T) {
	for s, want := range map[string]string{
		"": `""`, "a b": `"a b"`, `"`: `"\""`, `\`: `"\\"`, `\"`: `"\\\""`, " ~": `" ~"`,
		strings.Repeat("x", 40): `"` + strings.Repeat("x", 40) + `"`, strings.Repeat(`"`, 40): `"` + strings.Repeat(`\"`, 40) + `"`,
	} {
		if got, ok := words.Quote(s); got != want || !ok {
			t.Errorf("Quote(%q): %q, %v, want %q", s, got, ok, want)
		}
	}
	for _, s := range []string{strings.Repeat("x", 41), "\x1f", "a\x7f", "\n", "\t", "é", "\xff", "a\x80", "\u2028", "\ufffd", "\x00", strings.Repeat("\x00", 1<<16)} {
		if got, ok := words.Quote(s); got != "" || ok {
			t.Errorf("Quote(%q): %q, %v, want false", s, got, ok)
		}
	}
	for b := range 256 {
		s := string([]byte{byte(b)})
		if _, ok := words.Quote(s); ok != (b >= 0x20 && b <= 0x7e) {
			t.Errorf("Quote(%q): %v", s, ok)
		}
	}
}

func ExamplePercent() {
	fmt.Println(words.Percent(2, 8))
	fmt.Println(words.Percent(1, 3))
	// Output:
	// 25% true
	//  false
}
