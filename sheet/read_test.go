package sheet_test

import (
	"fmt"
	"slices"
	"strings"
	"testing"

	"levy/api"
	"levy/sheet"
)

func TestP18_8HowManyPages(t *testing.T) {
	page := reckoned(t, example(), nine())[0]
	faults(t, "nil", example(), nil, 0, 0, api.ErrSheetSize)
	faults(t, "empty", example(), []string{}, 0, 0, api.ErrSheetSize)
	for _, n := range []int{9, 10, 100} {
		faults(t, "too many", example(), slices.Repeat([]string{page}, n), 0, 0, api.ErrSheetSize)
		faults(t, "too many empty texts", example(), make([]string, n), 0, 0, api.ErrSheetSize)
		bad := slices.Repeat([]string{page}, n)
		bad[3] = ""
		faults(t, "too many, one of another size", example(), bad, 0, 0, api.ErrSheetSize)
	}
	faults(t, "eight", example(), slices.Repeat([]string{page}, 8), 0, 0, api.ErrSheetHead)
}

func TestP18_8Sizes(t *testing.T) {
	p := greatest()
	pages := reckoned(t, p, allUsed(t, p))
	good := pages[0]
	put := func(at int, b byte) string { return good[:at] + string(b) + good[at+1:] }
	for what, page := range map[string]string{
		"no byte": "", "a byte": "x", "a line feed": "\n", "a line": good[:73], "a line less": good[73:], "a line more": good + good[:73], "a byte less": good[:2919], "a byte more": good + " ", "a line feed more": good + "\n",
		"twice": good + good, "no line feed at the end": put(2919, ' '), "no line feed in the first line": put(72, ' '), "no line feed in the midst": put(73*20-1, ' '), "a line feed in the first line": put(0, '\n'),
		"a line feed in a place": put(73*20+30, '\n'), "a line feed as a line's last byte": put(73*5+71, '\n'), "a line feed in the foot": put(73*39, '\n'), "another end of a line": put(72, '\r'),
		"a line feed too early": good[:71] + "\n " + good[73:], "line feeds alone": strings.Repeat("\n", 2920), "blanks alone": strings.Repeat(" ", 2920),
	} {
		faults(t, what, p, []string{page}, 0, 0, api.ErrSheetSize)
		for i := range pages {
			bad := slices.Clone(pages)
			bad[i] = page
			faults(t, what, p, bad, i, 0, api.ErrSheetSize)
			bad[7] = page
			faults(t, what+", the last one too", p, bad, i, 0, api.ErrSheetSize)
			bad[0] = mended("x" + bad[0][min(len(bad[0]), 1):] + strings.Repeat(" ", 2920))[:2920]
			if i > 0 {
				faults(t, what+", behind a head", p, bad, i, 0, api.ErrSheetSize)
			}
		}
	}
}

func TestP18_8HeadsAndFeet(t *testing.T) {
	p := greatest()
	pages := reckoned(t, p, allUsed(t, p))
	heads := []string{"", headOf(p, 9, 8), headOf(p, 1, 9), headOf(p, 0, 8), strings.ToUpper(headOf(p, 1, 8)), "grea 2024" + headOf(p, 1, 8)[9:], "great 2025" + headOf(p, 1, 8)[10:], "great  2024" + headOf(p, 1, 8)[11:], " " + headOf(p, 1, 8)[:71]}
	for i := range pages {
		for _, head := range heads {
			faults(t, head, p, with(pages, i, 0, head), i, 0, api.ErrSheetHead)
		}
		for at := range 72 {
			text := []byte(strings.Repeat("=", 72))
			text[at] = '-'
			faults(t, "a rule", p, with(pages, i, 1, string(text)), i, 1, api.ErrSheetHead)
		}
		for _, foot := range []string{"", strings.Repeat("-", 72), footOf(""), strings.ToUpper(footOf(pages[i][:39*73])), footOf(pages[i][:39*73-1]), footOf(pages[i])} {
			bad := slices.Clone(pages)
			bad[i] = fmt.Sprintf("%s%-72s\n", bad[i][:39*73], foot)
			if bad[i] != pages[i] {
				faults(t, "a foot", p, bad, i, 39, api.ErrSheetHead)
			}
		}
		faults(t, "both", p, with(with(pages, i, 1, "x"), i, 0, "x"), i, 0, api.ErrSheetHead)
		rule := with(pages, i, 1, "x")
		rule[i] = rule[i][:2919-1] + "x\n"
		faults(t, "rule and foot", p, rule, i, 1, api.ErrSheetHead)
	}
}

// All of a page's frame is looked at ahead of the next page's, and all frames ahead of the entries.
func TestP18_8FramesInOrder(t *testing.T) {
	p := greatest()
	pages := reckoned(t, p, allUsed(t, p))
	foot := slices.Clone(pages)
	foot[2] = foot[2][:2918] + "x\n"
	faults(t, "a foot ahead of a head", p, with(foot, 3, 0, "x"), 2, 39, api.ErrSheetHead)
	faults(t, "a foot behind a head", p, with(foot, 1, 1, "x"), 1, 1, api.ErrSheetHead)
	faults(t, "a foot behind an entry", p, with(foot, 0, 2, "x"), 2, 39, api.ErrSheetHead)
	faults(t, "a head behind an entry", p, with(with(pages, 0, 2, "x"), 7, 0, "x"), 7, 0, api.ErrSheetHead)
	faults(t, "two pages that change places", p, []string{pages[1], pages[0]}, 0, 0, api.ErrSheetHead)
	faults(t, "a page that is missing", p, pages[:7], 0, 0, api.ErrSheetHead)
	faults(t, "a page twice", p, append(slices.Clone(pages[:7]), pages[6]), 7, 0, api.ErrSheetHead)
	other := p
	other.Name = "other"
	faults(t, "another pack", other, pages, 0, 0, api.ErrSheetHead)
	other = p
	other.Year = 2025
	faults(t, "another year", other, pages, 0, 0, api.ErrSheetHead)
}

// The example's lines: 2 wage, 3 total, 4 the group, 5 its row, 6 age, 7 credit, 8 blank.
func TestP18_8GroupEntries(t *testing.T) {
	pages := reckoned(t, example(), nine())
	for _, text := range []string{
		"", "kid", "[kid]", "[kid] 1", "[kid] 1 of", "[kid] 1 of ", "[kid] of 2", "[kid]1 of 2", "[kid]  1 of 2", "[kid] 1  of 2", "[kid] 1 of  2", "[kid] 1of 2", "[kid] 1 of2", "[kid] 1 OF 2", " [kid] 1 of 2", "(kid] 1 of 2", "kid] 1 of 2", "[kid 1 of 2", "[kid) 1 of 2",
		"[] 1 of 2", "[ki d] 1 of 2", "[ kid] 1 of 2", "[kid ] 1 of 2", "[k]d] 1 of 2", "[kid]] 1 of 2", "[abcdefghijklm] 1 of 2", "[kid] 10 of 2", "[kid] 01 of 2", "[kid] 1 of 02", "[kid] 1 of 20", "[kid] x of 2", "[kid] 1 of x", "[kid] -1 of 2", "[kid] / of 2", "[kid] : of 2", "[kid] 1 of /", "[kid] 1 of :",
		"[kid] 1 of 2.", "[kid] 1 of 2 .", "[kid] 1 of 2" + strings.Repeat(" ", 59) + "x", "[kid] 1 of 2\t", "\t[kid] 1 of 2", "[kid]\t1 of 2", "[kid] 1 of 2\x00", "[kid] \xb9 of 2", entry("> wage", "1.00"), "  kid row 2:",
	} {
		faults(t, fmt.Sprintf("%q", text), example(), with(pages, 0, 4, text), 0, 4, api.ErrSheetLine)
	}
	for _, text := range []string{
		"[kit] 1 of 2", "[k] 1 of 2", "[kidd] 1 of 2", "[abcdefghijkl] 1 of 2", "[KID] 1 of 2", "[\xff\x00\t] 1 of 2", "[\xc3\xa4\xc3\xa4\xc3\xa4\xc3\xa4\xc3\xa4\xc3\xa4] 1 of 2", "[[kid] 1 of 2", "[.] 1 of 2", "[kid] 1 of 1", "[kid] 1 of 3", "[kid] 1 of 0", "[kid] 1 of 9",
		"[kid] 3 of 2", "[kid] 9 of 2", "[kid] 3 of 3", "[kit] 9 of 9", "[wage] 1 of 2",
	} {
		faults(t, fmt.Sprintf("%q", text), example(), with(pages, 0, 4, text), 0, 4, api.ErrSheetName)
	}
	faults(t, "a letter of two bytes too many", example(), with(pages, 0, 4, "[\xc3\xa4\xc3\xa4\xc3\xa4\xc3\xa4\xc3\xa4\xc3\xa4\xc3] 1 of 2"), 0, 4, api.ErrSheetLine)
	faults(t, "a row less", example(), with(pages, 0, 4, "[kid] 0 of 2"), 0, 5, api.ErrSheetLine)
	faults(t, "a row more", example(), with(pages, 0, 4, "[kid] 2 of 2"), 0, 8, api.ErrSheetLine)
}

func TestP18_8RowEntries(t *testing.T) {
	pages := reckoned(t, example(), nine())
	for _, text := range []string{
		"", "kid row 2:", " kid row 2:", "   kid row 2:", "  kid", "  kid row", "  kid row 2", "  kid row :", "  kid row2:", "  kidrow 2:", "  kid  row 2:", "  kid row  2:", "  kid row 2 :", "  kid row 22:", "  kid row 02:", "  kid row x:", "  kid row /:", "  kid row ::", "  kid Row 2:", "  kid line 2:", "  row 2:", "   row 2:",
		"  kid row 2::", "  kid row 2: :", "  kid row 2:" + strings.Repeat(" ", 59) + "x", "  k d row 2:", "  abcdefghijklm row 2:", "> kid row 2:", "  kid row 2;", "\tkid row 2:", "  kid\trow 2:", "  kid row -2:", "[kid] 1 of 2", entry(">   age", "9"),
	} {
		faults(t, fmt.Sprintf("%q", text), example(), with(pages, 0, 5, text), 0, 5, api.ErrSheetLine)
	}
	for _, text := range []string{"  kit row 2:", "  k row 2:", "  kidd row 2:", "  abcdefghijkl row 2:", "  k]d row 2:", "  \xff\x00\t row 2:", "  kid row 0:", "  kid row 3:", "  kid row 9:", "  kit row 9:", "  : row 1:", "  row row 1:"} {
		faults(t, fmt.Sprintf("%q", text), example(), with(pages, 0, 5, text), 0, 5, api.ErrSheetName)
	}
	reads(t, "the other row", example(), with(pages, 0, 5, "  kid row 1:"), cells{0: cent(500000), 6: yes, 1: num(9)})
}

// Rows rise, each is above the one ahead of it.
func TestP18_8RowsRise(t *testing.T) {
	p := mixed()
	pages := printed(t, p, full(), mixedValues()) // lines 5 the group early, 6, 10, 14 its rows
	for a := 0; a <= 9; a++ {
		for b := 0; b <= 9; b++ {
			two := with(with(with(pages, 0, 5, "[early] 2 of 3"), 0, 6, fmt.Sprintf("  early row %d:", a)), 0, 10, fmt.Sprintf("  early row %d:", b))
			switch {
			case a < 1 || a > 3:
				faults(t, fmt.Sprint(a), p, two, 0, 6, api.ErrSheetName)
			case b <= a || b > 3:
				faults(t, fmt.Sprint(a, b), p, two, 0, 10, api.ErrSheetName)
			default:
				faults(t, fmt.Sprint(a, b), p, two, 0, 14, api.ErrSheetLine)
			}
		}
	}
	for _, x := range [][3]int{{6, 2, 10}, {6, 3, 10}, {10, 1, 10}, {10, 3, 14}, {14, 1, 14}, {14, 2, 14}} {
		faults(t, "three rows", p, with(pages, 0, x[0], fmt.Sprintf("  early row %d:", x[1])), 0, x[2], api.ErrSheetName)
	}
	faults(t, "a row of another group", p, with(pages, 0, 19, "  early row 1:"), 0, 19, api.ErrSheetName)
	faults(t, "a row less", p, with(with(pages, 0, 18, "[bare] 1 of 2"), 0, 20, "[late] 1 of 1"), 0, 21, api.ErrSheetLine)
}

// The checks of a group are due at the rows whose entries stand there.
func TestP18_8ChecksOfTheRowsThatStandThere(t *testing.T) {
	p := example()
	p.Checks = []api.Check{check("x", 0)}
	pages := reckoned(t, p, nine()) // line 8: x.2
	reads(t, "as it is", p, pages, nine())
	other := with(pages, 0, 5, "  kid row 1:")
	faults(t, "another row", p, other, 0, 8, api.ErrSheetName)
	reads(t, "and its check", p, with(other, 0, 8, entry("! x.1", "yes")), cells{0: cent(500000), 6: yes, 1: num(9)})
}

func TestP18_8ValueEntries(t *testing.T) {
	pages := reckoned(t, example(), nine())
	wage := entry("> wage", "5000.00")
	for _, text := range []string{
		"", "> wage", strings.Replace(wage, ">", " ", 1), strings.Replace(wage, ">", "!", 1), strings.Replace(wage, ">", "<", 1), " " + wage[:71], wage[1:], wage[:71], "> " + wage[1:71] + "0", ">" + strings.Replace(wage[2:], " .", "  .", 1),
		entry(">   wage", "5000.00"), entry(">  wage", "5000.00"), ">  " + wage[3:], entry("> wa ge", "5000.00"), strings.Replace(wage, ". 5", "  5", 1), strings.Replace(wage, ".. 5", ".  5", 1), strings.Replace(wage, "e .", "e  ", 1),
		strings.Replace(wage, ". 5", "  5", 1), strings.Replace(wage, "..........", "....:.....", 1), strings.Replace(wage, "..........", ".... .....", 1), entry("> wage", "5000 00"), entry("> wage", "5000.00 "), entry("> wage", " 5000.00"), entry("> wage", ""),
		entry("> abcdefghijklmno", "5000.00"), "> wage" + strings.Repeat(" ", 59) + "5000.00", "> wage  " + strings.Repeat("5", 64), "> wage " + strings.Repeat(".", 65), "> wage " + strings.Repeat("5", 65), "> " + strings.Repeat(".", 62) + " 5000.00", strings.Replace(wage, " 5000", "\t5000", 1), "[kid] 1 of 2", "> " + strings.Repeat("w", 70),
	} {
		faults(t, fmt.Sprintf("%q", text), example(), with(pages, 0, 2, text), 0, 2, api.ErrSheetLine)
	}
	for _, text := range []string{
		entry("> wagf", "5000.00"), entry("> w", "5000.00"), entry("> wages", "5000.00"), entry("> Wage", "5000.00"), entry("> abcdefghijklmn", "5000.00"), entry("> \xff\x00\t]", "5000.00"), entry("> .", "5000.00"), entry("> ....", "...."), entry("> >", "x"), entry("> total", "x"), "> wagf . " + strings.Repeat("5", 63), entry("> wage.1", "1.00"),
		entry("> \xc3\xa4\xc3\xa4\xc3\xa4\xc3\xa4\xc3\xa4\xc3\xa4\xc3\xa4", "1.00"),
	} {
		faults(t, fmt.Sprintf("%q", text), example(), with(pages, 0, 2, text), 0, 2, api.ErrSheetName)
	}
	for _, text := range []string{entry("> wage", "x"), entry("> wage", "...."), entry("> wage", "."), "> wage . " + strings.Repeat("5", 63), "> wage .. " + strings.Repeat(".", 62), entry("> wage", "\xff"), entry("> wage", "5000.00\t"), entry("> wage", "#over")} {
		faults(t, fmt.Sprintf("%q", text), example(), with(pages, 0, 2, text), 0, 2, api.ErrSheetValue)
	}
}

// Marks and indents: each kind of entry wants its own.
func TestP18_8MarksAndIndents(t *testing.T) {
	p := mixed()
	pages := printed(t, p, full(), mixedValues()) // lines 2 c, 3 f, 7 b, 8 d, 25 l, 27 k.1
	for line, name := range map[int]string{2: "> c", 3: "  f", 7: ">   b", 8: "    d", 25: "! l", 27: "! k.1"} {
		bare := strings.TrimLeft(name, ">! ")
		for _, lead := range []string{"> ", "  ", "! ", ">   ", "    ", "!   ", "", " ", ">", ">  ", "   ", ">> ", ">     ", "      "} {
			if lead+bare != name {
				faults(t, lead+bare, p, with(pages, 0, line, entry(lead+bare, "-")), 0, line, api.ErrSheetLine)
			}
		}
		if _, _, at, e := sheet.Read(p, with(pages, 0, line, entry(name, "-"))); e != api.OK {
			t.Errorf("%q: error %d at %d", name, e, at)
		}
	}
	for _, name := range []string{"! k", "! k.0", "! k.2", "! k.4", "! k.01", "! k.1.", "! l.1", "! k.11"} {
		faults(t, name, p, with(pages, 0, 27, entry(name, "-")), 0, 27, api.ErrSheetName)
	}
	faults(t, "a row of no row", p, with(pages, 0, 25, entry("! l.1", "-")), 0, 25, api.ErrSheetName)
}

// texts that are no value's, or not as they are written, whatever the kind.
func oddTexts() []string {
	return []string{
		"--", "+", "+1", "+0.01", "-0", "-0.00", "00", "01", "-01", "00.00", "01.00", "0.0", "0.000", ".00", ".05", "-.05", "0.", "1.", "1", "1.0", "1.001", "1,00", "1.0.0", "0.-5", "1e2", "0x1", "1_0", "10.0.", "-1.-1", "100000000000.00", "-100000000000.00", "99999999999.999", "1000000001", "-1000000001", "9223372036854775807", "9223372036854775808", "-9223372036854775808", "92233720368547758.07", "18446744073709551617", "184467440737095516.17", "340282366920938463463374607431768211457", "5O00.00", "\xd9\xa1", "\xef\xbc\x91.00",
		"Yes", "YES", "y", "n", "No", "true", "false", "yesno", "1900-1-1", "1900-01-00", "1899-12-31", "2200-01-01", "2023-02-29", "1900-02-29", "2024-13-01", "2024-00-01", "2024-02-30", "2024/02/28", "24-02-28", "2024-02-28Z", "02024-02-28", "2024-02-2", "-2024-02-28", "+024-02-28",
		":", ":i", "a", ":A", "::a", ":a:", ":aa", ":0", "#", "#Over", "#OVER", "over", "#overs", "#", "##over", "#1", "#blank", "blank", "fault", "#fault", "?", "*", ".", "..",
	}
}

// goodTexts: texts that some kind has.
func goodTexts() []string {
	return []string{
		"-", "0.00", "0.05", "-0.05", "1.00", "-1.00", "10.00", "99999999999.99", "-99999999999.99", "0", "7", "-7", "10", "1000000000", "-1000000000", "yes", "no", "1900-01-01", "2000-02-29", "2024-02-29", "2199-12-31", ":a", ":b", ":h", "#over", "#zero", "#needed", "#range", "#wrong",
	}
}

// Which text may stand in which line, of inputs, of computed lines and of checks.
func TestP18_8ValueTexts(t *testing.T) {
	p := every()
	m := modelOf(t, p)
	pages := reckoned(t, p, cells{})
	seen := tally{}
	for place := range 11 {
		lead := "! k"
		switch {
		case place < 5:
			lead = "> " + named("i", place+1)
		case place < 10:
			lead = "  " + named("c", place-4)
		}
		for _, text := range slices.Concat(oddTexts(), goodTexts()) {
			bad := with(pages, 0, 2+place, entry(lead, text))
			want := m.read(bad)
			asModel(t, p, m, bad, seen)
			if want.errno == api.OK {
				seen[fmt.Sprint("taken at ", place)]++
				continue
			}
			if want.errno != api.ErrSheetValue || want.line != 2+place {
				t.Errorf("%q at %d: the model tells %d at %d", text, place, want.errno, want.line)
			}
		}
	}
	for place, n := range []int{8, 6, 3, 5, 4, 13, 11, 8, 10, 9, 8} {
		if got := seen[fmt.Sprint("taken at ", place)]; got < n || got > n+3 {
			t.Errorf("place %d takes %d texts", place, got)
		}
	}
}

// A text of another options' table is none.
func TestP18_8OptionsOfTheirTable(t *testing.T) {
	p := every()
	p.Lines[4].Options, p.Lines[9].Options = 1, 1
	pages := reckoned(t, p, cells{4: option(0)})
	reads(t, "b", p, pages, cells{4: option(0)})
	reads(t, "a", p, with(pages, 0, 6, entry("> "+named("i", 5), ":a")), cells{4: option(1)})
	faults(t, "c", p, with(pages, 0, 6, entry("> "+named("i", 5), ":c")), 0, 6, api.ErrSheetValue)
	faults(t, "c, computed", p, with(pages, 0, 11, entry("  "+named("c", 5), ":c")), 0, 11, api.ErrSheetValue)
}

func TestP18_8NoPlaceLeft(t *testing.T) {
	for _, x := range []struct{ lines, checks, pages int }{{38, 0, 1}, {37, 1, 1}, {48, 16, 1}} {
		p := plain(x.lines, x.checks)
		pages := reckoned(t, p, cells{})
		faults(t, "a page less", p, []string{headed(p, pages[0], 1, 1)}, 0, 39, api.ErrSheetSize)
		faults(t, "a fault ahead", p, with([]string{headed(p, pages[0], 1, 1)}, 0, 38, "x"), 0, 38, api.ErrSheetLine)
	}
	p := greatest()
	pages := reckoned(t, p, allUsed(t, p))
	for n := 1; n < 8; n++ {
		var less []string
		for i := range n {
			less = append(less, headed(p, pages[i], i+1, n))
		}
		faults(t, fmt.Sprint(n, " pages"), p, less, n-1, 39, api.ErrSheetSize)
	}
}

func TestP18_8BehindTheLastEntry(t *testing.T) {
	pages := reckoned(t, example(), nine())
	for line := 8; line < 39; line++ {
		for _, text := range []string{"x", ".", "-", strings.Repeat(" ", 71) + "x", strings.Repeat(" ", 40) + "\t", "\x00", entry("> wage", "1.00"), "[kid] 1 of 2"} {
			bad := with(pages, 0, line, text)
			faults(t, "behind", example(), bad, 0, line, api.ErrSheetLine)
			faults(t, "two behind", example(), with(bad, 0, 38, "x"), 0, line, api.ErrSheetLine)
		}
	}
	p := plain(37, 0)
	faults(t, "an entry more", plain(36, 0), reckoned(t, p, cells{}), 0, 38, api.ErrSheetLine)
	p.Lines[36].Name = "zz"
	faults(t, "another one", plain(37, 0), reckoned(t, p, cells{}), 0, 38, api.ErrSheetName)
}

func TestP18_8PagesTooMany(t *testing.T) {
	none := strings.Repeat(strings.Repeat(" ", 72)+"\n", 40)
	rule := none[:73] + strings.Repeat("=", 72) + none[72*2+1:]
	for _, lines := range []int{1, 36, 37, 38, 48} {
		p := plain(lines, 0)
		pages := reckoned(t, p, cells{})
		for many := len(pages) + 1; many <= 8; many++ {
			var more []string
			for i := range many {
				page := rule
				if i < len(pages) {
					page = pages[i]
				}
				more = append(more, headed(p, page, i+1, many))
			}
			faults(t, fmt.Sprint(many, " pages"), p, more, len(pages), 0, api.ErrSheetSize)
			faults(t, "and something on the last one", p, with(more, many-1, 38, "x"), many-1, 38, api.ErrSheetLine)
			faults(t, "and something on the first one too many", p, with(more, len(pages), 2, "x"), len(pages), 2, api.ErrSheetLine)
			faults(t, "and a fault ahead", p, with(more, 0, 2, entry("> laa", "x")), 0, 2, api.ErrSheetValue)
		}
	}
}

// The first entry that isn't as it is due is told, whatever is wrong behind it.
func TestP18_8TheFirstFault(t *testing.T) {
	pages := reckoned(t, example(), nine())
	spoilt := []struct {
		text  string
		errno api.Errno
	}{{"x", api.ErrSheetLine}, {entry("  totas", "1.00"), api.ErrSheetName}, {"[kid] 3 of 2", api.ErrSheetName}, {"  kid row 3:", api.ErrSheetName}, {entry(">   age", "1.00"), api.ErrSheetValue}, {entry("    credit", "1"), api.ErrSheetValue}, {"x", api.ErrSheetLine}}
	for i := range spoilt {
		bad := pages
		for j := len(spoilt) - 1; j >= i; j-- {
			bad = with(bad, 0, 2+j, spoilt[j].text)
			faults(t, fmt.Sprint(j), example(), bad, 0, 2+j, spoilt[j].errno)
		}
	}
}
