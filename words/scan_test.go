package words_test

import (
	"math/rand"
	"strings"
	"testing"

	"levy/api"
)

func TestP4_1Tokens(t *testing.T) {
	takes(t, "tax = 7.25% * pay - 12.00 # net",
		name(0, "tax"), sign(4, "="), percent(6, 29, 400), sign(12, "*"), name(14, "pay"), sign(18, "-"), amount(20, 1200), end(31))
	takes(t, "")
	takes(t, "a!=b", name(0, "a"), sign(1, "!="), name(3, "b"), end(4))
}

func TestP4_1FirstFault(t *testing.T) {
	refuses(t, "a A 012", 2, api.ErrWordsByte)
	refuses(t, "a 012 A", 2, api.ErrWordsNumber)
	refuses(t, "a\nb\n 2023-02-29 \"x", 5, api.ErrWordsDate)
	refuses(t, "\"x\x01 A", 2, api.ErrWordsText)
	refuses(t, "abcdefghijklm \"x", 0, api.ErrWordsLong)
}

func TestP4_1Length(t *testing.T) {
	takes(t, strings.Repeat(" ", 8000))
	takes(t, strings.Repeat(" ", 7999)+"a", name(7999, "a"), end(8000))
	takes(t, "a#"+strings.Repeat("\xff", 7998), name(0, "a"), end(8000))
	refuses(t, "a#"+strings.Repeat("\xff", 7999), 0, api.ErrWordsLong)
	refuses(t, "a A"+strings.Repeat(" ", 7998), 0, api.ErrWordsLong)
	refuses(t, strings.Repeat("\n", 1<<20), 0, api.ErrWordsLong)
	if got := scan(strings.Repeat("(", 8000)); len(got.l) != 8001 || got.l[8000] != end(8000) || got.e != api.OK {
		t.Errorf("%d tokens, error %d", len(got.l), got.e)
	}
}

// The pieces in any order, and each byte behind and ahead of each piece.
func TestP4_1AgainstModel(t *testing.T) {
	ask := func(s string) {
		t.Helper()
		if got, want := scan(s), modelScan(s); !same(got, want) {
			t.Fatalf("Scan(%q): %v, want %v", s, got, want)
		}
	}
	for _, a := range bits {
		for b := range 256 {
			ask(a + string([]byte{byte(b)}))
			ask(string([]byte{byte(b)}) + a)
			ask(a + string([]byte{byte(b)}) + a)
		}
		for _, b := range bits {
			for _, c := range bits {
				ask(a + b + c)
			}
		}
	}
	r := rand.New(rand.NewSource(1))
	for range 100000 {
		ask(made(r, bits, ""))
		ask(made(r, bits, " "))
		ask(made(r, goodBits, strings.Repeat(" ", r.Intn(2))))
	}
}

func TestP4_2Between(t *testing.T) {
	takes(t, "\n\n")
	takes(t, " \t \n\t")
	takes(t, "#x")
	takes(t, "#\n# y\n")
	takes(t, "a\n\nb", name(0, "a"), end(1), name(3, "b"), end(4))
	takes(t, "\ta \t b\t\n", name(1, "a"), name(5, "b"), end(7))
	takes(t, "a# b # c\n#d\ne", name(0, "a"), end(8), name(12, "e"), end(13))
	takes(t, "12#\x00\x80\"é\r\n", count(0, 12), end(9))
	takes(t, "a #", name(0, "a"), end(3))
	takes(t, `"#" b`, text(0, "#"), name(4, "b"), end(5))
	takes(t, "a\n \n# \nb\n\n", name(0, "a"), end(1), name(7, "b"), end(8))
	for _, c := range []string{"\r", "\v", "\f", "\u00a0", "\x00"} {
		refuses(t, "a"+c+"b", 1, api.ErrWordsByte)
	}
}

func TestP4_3Names(t *testing.T) {
	takes(t, "a_1b2(", name(0, "a_1b2"), sign(5, "("), end(6))
	takes(t, "z", name(0, "z"), end(1))
	takes(t, "a__", name(0, "a__"), end(3))
	takes(t, "abcdefghijkl", name(0, "abcdefghijkl"), end(12))
	takes(t, "abc.def", name(0, "abc"), sign(3, "."), name(4, "def"), end(7))
	refuses(t, "= abcdefghijklm", 2, api.ErrWordsLong)
	refuses(t, "a"+strings.Repeat("_", 7999), 0, api.ErrWordsLong)
	refuses(t, "abcdefghijklM", 12, api.ErrWordsByte)
	refuses(t, "_a", 0, api.ErrWordsByte)
	refuses(t, "aB", 1, api.ErrWordsByte)
	refuses(t, "aé", 1, api.ErrWordsByte)
	refuses(t, "é", 0, api.ErrWordsByte)
}

func TestP4_4DatesAndNumbers(t *testing.T) {
	takes(t, "2024-2-9", count(0, 2024), sign(4, "-"), count(5, 2), sign(6, "-"), count(7, 9), end(8))
	refuses(t, "2024-02", 5, api.ErrWordsNumber)
	takes(t, "2024-10-0", count(0, 2024), sign(4, "-"), count(5, 10), sign(7, "-"), count(8, 0), end(9))
	takes(t, "2024-10-1", count(0, 2024), sign(4, "-"), count(5, 10), sign(7, "-"), count(8, 1), end(9))
	takes(t, "224-10-10", count(0, 224), sign(3, "-"), count(4, 10), sign(6, "-"), count(7, 10), end(9))
	takes(t, "2024-10-10", date(0, 45573), end(10))
}

// A zero ahead may stand in a date alone.
func TestP4_4ZerosAhead(t *testing.T) {
	refuses(t, "012", 0, api.ErrWordsNumber)
	refuses(t, "00", 0, api.ErrWordsNumber)
	refuses(t, "a 00.50", 2, api.ErrWordsNumber)
	refuses(t, "01%", 0, api.ErrWordsNumber)
	refuses(t, "20240-02-29", 6, api.ErrWordsNumber)
	takes(t, "0", count(0, 0), end(1))
	takes(t, "0.00", amount(0, 0), end(4))
	takes(t, "0.05", amount(0, 5), end(4))
}

func TestP4_4WhatFollows(t *testing.T) {
	for _, s := range []string{"12a", "12_", "12.50z", "12.50_", "12%a", "7.5%_", "33.333333%x", "0a", "12.5a"} {
		refuses(t, s, 0, api.ErrWordsNumber)
	}
	for _, s := range []string{"2024-02-291", "2024-02-29a", "2024-02-29_", "2023-02-29z"} {
		refuses(t, s, 0, api.ErrWordsDate)
	}
	refuses(t, "12A", 2, api.ErrWordsByte)
	refuses(t, "2024-02-29A", 10, api.ErrWordsByte)
	refuses(t, "2024-02-29%", 10, api.ErrWordsByte)
	refuses(t, "12%%", 3, api.ErrWordsByte)
	refuses(t, "12 %", 3, api.ErrWordsByte)
	takes(t, "12%5", percent(0, 3, 25), count(3, 5), end(4))
	takes(t, "12.", count(0, 12), sign(2, "."), end(3))
	takes(t, "12.a", count(0, 12), sign(2, "."), name(3, "a"), end(4))
	takes(t, "1.25.5", amount(0, 125), sign(4, "."), count(5, 5), end(6))
	takes(t, "2024-02-29.5", date(0, 45349), sign(10, "."), count(11, 5), end(12))
	takes(t, `12"a"`, count(0, 12), text(2, "a"), end(5))
	takes(t, "2024-02-29-2024-02-29", date(0, 45349), sign(10, "-"), date(11, 45349), end(21))
}

func TestP4_5CountsAndAmounts(t *testing.T) {
	takes(t, "12", count(0, 12), end(2))
	takes(t, "1000000000", count(0, 1000000000), end(10))
	takes(t, "12.50", amount(0, 1250), end(5))
	takes(t, "99999999999.99", amount(0, 9999999999999), end(14))
	for _, s := range []string{
		"1000000001", "9223372036854775807", "9223372036854775808", "18446744073709551617", strings.Repeat("9", 8000),
		"12.5", "12.505", "12.500", "100000000000.00", "92233720368547758.08", "184467440737095516.17", "1." + strings.Repeat("0", 7998),
	} {
		refuses(t, s, 0, api.ErrWordsNumber)
	}
}

func TestP4_6Percents(t *testing.T) {
	takes(t, "0%", percent(0, 0, 1), end(2))
	takes(t, "100%", percent(0, 1, 1), end(4))
	takes(t, "12.5%", percent(0, 1, 8), end(5))
	takes(t, "7.25%", percent(0, 29, 400), end(5))
	takes(t, "0.000001%", percent(0, 1, 100000000), end(9))
	takes(t, "33.333333%", percent(0, 33333333, 100000000), end(10))
	takes(t, "100000000000%", percent(0, 1000000000, 1), end(13))
	takes(t, "9.999999%", percent(0, 9999999, 100000000), end(9))
	takes(t, "999.999999%", percent(0, 999999999, 100000000), end(11))
	takes(t, "390624999.609375%", percent(0, 999999999, 256), end(17))
	for _, s := range []string{
		"12.50%", "1.0%", "0.0%", "0.10%", "1.1234567%", "0.0000001%", "1.0000001%", "100000000001%", "1000.000001%", "390625000.390625%", "92233720368547758.07%",
		"92233720368547758.08%", "184467440737095516.17%", "9223372036854775808%", strings.Repeat("9", 7999) + "%",
	} {
		refuses(t, s, 0, api.ErrWordsNumber)
	}
}

func TestP4_7Dates(t *testing.T) {
	takes(t, "1900-01-01", date(0, 0), end(10))
	takes(t, " 2000-02-29", date(1, 36583), end(11))
	takes(t, "2024-02-29", date(0, 45349), end(10))
	takes(t, "2199-12-31", date(0, 109572), end(10))
	for _, s := range []string{"2023-02-29", "1899-12-31", "2200-01-01", "2024-00-10", "2024-13-01", "2024-01-00", "2024-04-31", "0000-00-00", "9999-99-99"} {
		refuses(t, "a "+s, 2, api.ErrWordsDate)
	}
}

func TestP4_8Texts(t *testing.T) {
	takes(t, `""`, text(0, ""), end(2))
	takes(t, `"a\"b"`, text(0, `a"b`), end(6))
	takes(t, `"\\" "\\\""`, text(0, `\`), text(5, `\"`), end(11))
	takes(t, `" ~#(0%"a`, text(0, " ~#(0%"), name(8, "a"), end(9))
	takes(t, `"a""b"`, text(0, "a"), text(3, "b"), end(6))
	x40 := strings.Repeat("x", 40)
	takes(t, `"`+x40+`"`, text(0, x40), end(42))
	takes(t, `"`+strings.Repeat(`\"`, 40)+`"`, text(0, strings.Repeat(`"`, 40)), end(82))
	refuses(t, ` "`+x40+`x"`, 1, api.ErrWordsLong)
	refuses(t, ` "`+strings.Repeat(`\\`, 41)+`"`, 1, api.ErrWordsLong)
}

func TestP4_8Faults(t *testing.T) {
	refuses(t, `"ab`, 0, api.ErrWordsText)
	refuses(t, `"`, 0, api.ErrWordsText)
	refuses(t, "= \"ab\ncd\"", 2, api.ErrWordsText)
	refuses(t, `"ab\"`, 0, api.ErrWordsText)
	refuses(t, `"a\n"`, 2, api.ErrWordsText)
	refuses(t, "\"a\\\n\"", 2, api.ErrWordsText)
	refuses(t, `"a\`, 2, api.ErrWordsText)
	refuses(t, `"a\\\`, 4, api.ErrWordsText)
	refuses(t, "\"a\\\x01\"", 2, api.ErrWordsText)
	refuses(t, `"a\é"`, 2, api.ErrWordsText)
	for _, c := range []string{"\x00", "\x1f", "\t", "\r", "\x7f", "\x80", "\xff", "é", "\u2028"} {
		refuses(t, `"a`+c+`"`, 2, api.ErrWordsText)
		refuses(t, `"a`+c, 2, api.ErrWordsText)
	}
	long := strings.Repeat("x", 41)
	refuses(t, `"`+long, 0, api.ErrWordsText)
	refuses(t, `"`+long+"\t\"", 42, api.ErrWordsText)
	refuses(t, ` "`+long+"\n", 1, api.ErrWordsText)
}

func TestP4_9Signs(t *testing.T) {
	for _, s := range []string{"(", ")", ",", ":", ".", "=", "!=", "<", "<=", ">", ">=", "+", "-", "*", "/"} {
		takes(t, s, sign(0, s), end(len(s)))
		takes(t, " "+s+s, sign(1, s), sign(1+len(s), s), end(1+2*len(s)))
	}
	takes(t, "a!=<=>=<>", name(0, "a"), sign(1, "!="), sign(3, "<="), sign(5, ">="), sign(7, "<"), sign(8, ">"), end(9))
	takes(t, "==", sign(0, "="), sign(1, "="), end(2))
	takes(t, "=<", sign(0, "="), sign(1, "<"), end(2))
	takes(t, "<==", sign(0, "<="), sign(2, "="), end(3))
	refuses(t, "!", 0, api.ErrWordsByte)
	refuses(t, "a ! =", 2, api.ErrWordsByte)
	refuses(t, "!!=", 0, api.ErrWordsByte)
}

func TestP4_9OtherBytes(t *testing.T) {
	begins := "abcdefghijklmnopqrstuvwxyz0123456789(),:.=<>+-*/ \t\n#"
	for b := range 256 {
		c := byte(b)
		s := "a " + string([]byte{c})
		switch {
		case c == '"':
			refuses(t, s, 2, api.ErrWordsText)
		case strings.IndexByte(begins, c) < 0:
			refuses(t, s, 2, api.ErrWordsByte)
		default:
			if got := scan(s); got.e != api.OK {
				t.Errorf("%q: error %d at %d", s, got.e, got.at)
			}
		}
	}
}
