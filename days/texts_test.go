package days_test

import (
	"strings"
	"testing"

	"levy/api"
	"levy/days"
)

// P2.11, P2.13: every day's text, held against the library's, and read back.
func TestEveryText(t *testing.T) {
	for n := 0; n <= api.MaxDay; n++ {
		text, e := days.Print(n)
		if want := civil(n).Format("2006-01-02"); text != want || e != api.OK {
			t.Fatalf("P2.11: Print(%d) is %q, error %d, not %q", n, text, e, want)
		}
		if back, at, e := days.Parse(text); back != n || at != 10 || e != api.OK {
			t.Fatalf("P2.13: Parse(%q) is %d, place %d, error %d, not %d", text, back, at, e, n)
		}
	}
}

// P2.11: numbers that are no days.
func TestPrintOfNoDay(t *testing.T) {
	for _, n := range noDays {
		if text, e := days.Print(n); text != "" || e != api.ErrDaysRange {
			t.Errorf("P2.11: Print(%d) is %q, error %d, not ErrDaysRange", n, text, e)
		}
	}
}

// P2.12: the document's examples, texts of the form that are no dates, texts that aren't of the form.
func TestParseExamples(t *testing.T) {
	for _, c := range []struct {
		text  string
		n, at int
		e     api.Errno
	}{
		{"2000-02-29", 36583, 10, api.OK}, {"1900-01-01", 0, 10, api.OK}, {"2199-12-31", api.MaxDay, 10, api.OK},
		{"2024-02-30", 0, 0, api.ErrDaysDate}, {"2024-02-00", 0, 0, api.ErrDaysDate}, {"2024-00-01", 0, 0, api.ErrDaysDate}, {"2024-13-01", 0, 0, api.ErrDaysDate},
		{"1900-02-29", 0, 0, api.ErrDaysDate}, {"2024-99-99", 0, 0, api.ErrDaysDate}, {"0000-00-00", 0, 0, api.ErrDaysDate}, {"2200-01-32", 0, 0, api.ErrDaysDate},
		{"1899-12-31", 0, 0, api.ErrDaysRange}, {"2200-01-01", 0, 0, api.ErrDaysRange}, {"0000-02-29", 0, 0, api.ErrDaysRange}, {"9999-12-31", 0, 0, api.ErrDaysRange},
		{"2024-2-29", 0, 6, api.ErrDaysForm}, {"2024-02-29 ", 0, 10, api.ErrDaysForm}, {"2024", 0, 4, api.ErrDaysForm}, {"", 0, 0, api.ErrDaysForm},
		{" 2024-02-29", 0, 0, api.ErrDaysForm}, {"-024-02-29", 0, 0, api.ErrDaysForm}, {"+024-02-29", 0, 0, api.ErrDaysForm}, {"20240-2-29", 0, 4, api.ErrDaysForm},
		{"2024/02-29", 0, 4, api.ErrDaysForm}, {"2024-02/29", 0, 7, api.ErrDaysForm}, {"2024-02-2", 0, 9, api.ErrDaysForm}, {"2024-02-2x0", 0, 9, api.ErrDaysForm},
		{"2024-02-299", 0, 10, api.ErrDaysForm}, {"2024-02-30x", 0, 10, api.ErrDaysForm}, {"2200-13-99-", 0, 10, api.ErrDaysForm}, {"2024-13-", 0, 8, api.ErrDaysForm},
		{"２０２４-02-29", 0, 0, api.ErrDaysForm}, {"2024-02-2\xb2", 0, 9, api.ErrDaysForm}, {"2024\u221202-29", 0, 4, api.ErrDaysForm}, {"2024-02-29\x00", 0, 10, api.ErrDaysForm}, {"\x00", 0, 0, api.ErrDaysForm},
		{"2024-02-29" + strings.Repeat("0", 1<<20), 0, 10, api.ErrDaysForm},
	} {
		if n, at, e := days.Parse(c.text); n != c.n || at != c.at || e != c.e {
			t.Errorf("P2.12: Parse(%.20q) is %d, place %d, error %d, not %d, place %d, error %d", c.text, n, at, e, c.n, c.at, c.e)
		}
	}
}

// P2.12: every byte at every place of a text, with the text's end near and far.
func TestParseEveryByte(t *testing.T) {
	const text = "2024-11-15"
	for at := range len(text) {
		for c := range 256 {
			digit := '0' <= c && c <= '9'
			stands := digit && text[at] != '-' || c == '-' && text[at] == '-'
			for _, rest := range []string{text[at+1:], "", text[at+1:] + "0", "xx"} {
				s := text[:at] + string([]byte{byte(c)}) + rest
				n, place, e := days.Parse(s)
				if !stands && (n != 0 || place != at || e != api.ErrDaysForm) {
					t.Fatalf("P2.12: Parse(%q) is %d, place %d, error %d, not place %d, ErrDaysForm", s, n, place, e, at)
				}
				if stands && e == api.ErrDaysForm && place <= at {
					t.Fatalf("P2.12: Parse(%q) finds its fault at %d", s, place)
				}
				if stands && len(s) == 10 && rest != "xx" && e == api.ErrDaysForm {
					t.Fatalf("P2.12: Parse(%q) refuses the form, at %d", s, place)
				}
			}
		}
	}
}

// P2.12: texts that end too early: the place is their end.
func TestParseShortTexts(t *testing.T) {
	for _, text := range []string{"2024-11-15", "0000-00-00", "9999-99-99"} {
		for end := range len(text) {
			if n, at, e := days.Parse(text[:end]); n != 0 || at != end || e != api.ErrDaysForm {
				t.Errorf("P2.12: Parse(%q) is %d, place %d, error %d", text[:end], n, at, e)
			}
		}
	}
}

// P2.12: all months and days of two digits, in years about the calendar's ends: Number's answer, with its place.
func TestParseIsNumber(t *testing.T) {
	for _, year := range []string{"0000", "0004", "1899", "1900", "2000", "2023", "2199", "2200", "2400", "9999"} {
		y := int(year[0]-'0')*1000 + int(year[1]-'0')*100 + int(year[2]-'0')*10 + int(year[3]-'0')
		for month := range 100 {
			for day := range 100 {
				text := year + "-" + string([]byte{byte('0' + month/10), byte('0' + month%10), '-', byte('0' + day/10), byte('0' + day%10)})
				want, refused := days.Number(y, month, day)
				place := 10
				if refused != api.OK {
					place = 0
				}
				if n, at, e := days.Parse(text); n != want || at != place || e != refused {
					t.Fatalf("P2.12: Parse(%q) is %d, place %d, error %d, not %d, place %d, error %d", text, n, at, e, want, place, refused)
				}
			}
		}
	}
}
