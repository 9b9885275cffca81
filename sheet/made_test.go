package sheet_test

import (
	"fmt"
	"maps"
	"math"
	"math/rand"
	"slices"
	"strings"
	"testing"

	"levy/api"
	"levy/sheet"
	"levy/types"
)

// Returns by chance, and pages that are spoilt by chance, held against the model.

// kind: choices once a table.
type kind struct{ kind, options int }

var kinds = []kind{{api.Cents, -1}, {api.Count, -1}, {api.Flag, -1}, {api.Day, -1}, {api.Choice, 0}, {api.Choice, 1}}

func pick[T any](r *rand.Rand, l ...T) T { return l[r.Intn(len(l))] }

// madeName: a name that is unlike for unlike numbers, short or long.
func madeName(r *rand.Rand, lead string, n int) string {
	return named(lead, n) + strings.Repeat(pick(r, "z", "_", "9"), pick(r, 0, 0, 3, api.MaxName-3))
}

// madePack: a pack of at most so many lines, which passes Check.
func madePack(r *rand.Rand, lines int) api.Pack {
	p := api.Pack{
		Name: madeName(r, "p", r.Intn(9)), Year: pick(r, 1900, 2024, 2199),
		Options: []api.Options{{Name: "status", Names: []string{"single", "joint", "widowed_long"}}, {Name: "size", Names: []string{"big", "single"}}},
	}
	for i := range r.Intn(api.MaxGroups + 1) {
		p.Groups = append(p.Groups, api.Group{Name: madeName(r, "g", i), Rows: 1 + r.Intn(api.MaxRows)})
	}
	for i := range 1 + r.Intn(lines) {
		k := pick(r, kinds...)
		l := api.Line{Name: madeName(r, "l", i), Input: r.Intn(2) == 0, Type: k.kind, Options: k.options, Group: r.Intn(len(p.Groups)+1) - 1}
		if !l.Input {
			l.Clauses = []api.Clause{{Body: body(r, p, l)}}
		}
		p.Lines = append(p.Lines, l)
	}
	for i := range r.Intn(api.MaxChecks + 1) {
		c := check(madeName(r, "c", i), r.Intn(len(p.Groups)+1)-1)
		c.When = body(r, p, api.Line{Type: api.Flag, Options: -1, Group: c.Group})
		p.Checks = append(p.Checks, c)
	}
	for types.Cells(p) > api.MaxCells {
		p.Lines, p.Checks = p.Lines[:max(1, len(p.Lines)-1)], p.Checks[:max(0, len(p.Checks)-1)]
		for i := range p.Checks {
			p.Checks[i].When = of(api.OpFlag, 1)
		}
	}
	return p
}

// body: an expression for a line: a line ahead of it, or a constant.
func body(r *rand.Rand, p api.Pack, l api.Line) api.Expr {
	for _, i := range r.Perm(len(p.Lines)) {
		if x := p.Lines[i]; x.Type == l.Type && x.Options == l.Options && (x.Group == -1 || x.Group == l.Group) {
			return line(i)
		}
	}
	e := of(map[int]int{api.Cents: api.OpCents, api.Count: api.OpCount, api.Flag: api.OpFlag, api.Day: api.OpDay, api.Choice: api.OpChoice}[l.Type], 1)
	e.Den = int64(max(0, l.Options))
	return e
}

// some: a value of a kind, at its bounds or not.
func some(r *rand.Rand, k kind) api.Value {
	switch k.kind {
	case api.Cents:
		return cent(pick(r, 0, 1, -1, 250, 123456789, api.MaxCents, -api.MaxCents, r.Int63n(5000), r.Int63n(api.MaxCents)))
	case api.Count:
		return num(pick(r, 0, 1, -1, 17, api.MaxCount, -api.MaxCount, r.Int63n(50)))
	case api.Flag:
		return val(api.Flag, int64(r.Intn(2)))
	case api.Day:
		return date(pick(r, 0, 58, 36583, 45000, api.MaxDay, r.Int63n(api.MaxDay)))
	}
	return option(int64(r.Intn(3 - k.options)))
}

// someInputs: inputs that fit.
func someInputs(r *rand.Rand, m *model) cells {
	in := cells{}
	often := pick(r, 0, 20, 60, 100)
	set := func(group, row int) {
		for i, l := range m.pack.Lines {
			if l.Input && l.Group == group && r.Intn(100) < often {
				in[m.cell(i, row)] = some(r, kind{l.Type, l.Options})
			}
		}
	}
	set(-1, 0)
	for group, g := range m.pack.Groups {
		for row := range g.Rows {
			if r.Intn(100) < often {
				in[m.flag(group, row)] = yes
				set(group, row)
			}
		}
	}
	return in
}

// someValues: what cells may hold; at input cells anything.
func someValues(r *rand.Rand, m *model) []api.Value {
	vals := make([]api.Value, m.graph.Cells())
	for cell := range vals {
		place, _ := m.graph.Place(cell)
		k := kinds[2]
		if place.Kind == api.PlaceLine {
			k = kind{m.pack.Lines[place.Index].Type, m.pack.Lines[place.Index].Options}
		}
		switch r.Intn(4) {
		case 0:
		case 1:
			vals[cell] = fault(1 + int64(r.Intn(5)))
		default:
			vals[cell] = some(r, k)
		}
		if place.Kind == api.PlaceFlag || place.Kind == api.PlaceLine && m.pack.Lines[place.Index].Input {
			vals[cell] = val(strange(r), int64(strange(r)))
		}
	}
	return vals
}

// strange: numbers that may stand anywhere.
func strange(r *rand.Rand) int {
	return pick(r, math.MinInt, math.MinInt32, -2, -1, 0, 0, 1, 1, 2, 3, 5, 6, 8, 9, 42, math.MaxInt32, math.MaxInt)
}

// eachMade calls do with packs, and their models.
func eachMade(t *testing.T, seed int64, many, lines int, do func(r *rand.Rand, p api.Pack, m *model)) {
	t.Helper()
	r := rand.New(rand.NewSource(seed))
	for range many {
		p := madePack(r, lines)
		if do(r, p, modelOf(t, p)); t.Failed() {
			t.Fatalf("the pack: %+v", p)
		}
	}
}

// asModel holds what Read answers against the model, and counts what it was.
func asModel(t *testing.T, p api.Pack, m *model, pages []string, seen tally) {
	t.Helper()
	want := m.read(pages)
	in, page, line, e := sheet.Read(p, pages)
	switch {
	case e != want.errno || page != want.page || line != want.line || (in != nil) != (want.errno == api.OK):
		t.Errorf("error %d at %d, %d (a map: %t), want %d at %d, %d: %s", e, page, line, in != nil, want.errno, want.page, want.line, strings.Join(pages, ""))
	case e == api.OK && (in.Len() != len(want.in) || !maps.Equal(cellsOf(in), want.in)):
		t.Errorf("%v, want %v", cellsOf(in), want.in)
	}
	seen[fmt.Sprint(want.errno)]++
	seen[fmt.Sprint(int(want.errno), " at page ", want.page)]++
}

func TestP18_1ToP18_7ByChance(t *testing.T) {
	seen := tally{}
	eachMade(t, 1801, 400, 30, func(r *rand.Rand, p api.Pack, m *model) {
		in, vals := someInputs(r, m), someValues(r, m)
		pages := printed(t, p, in, vals)
		if want := m.pages(m.entries(in, vals)); !slices.Equal(pages, want) {
			t.Errorf("%s\nwant %s", strings.Join(pages, ""), strings.Join(want, ""))
		}
		seen[fmt.Sprint(len(pages), " pages")]++
		reads(t, "by chance", p, pages, in)
	})
	seen.atLeast(t, 5, "1 pages", "2 pages", "3 pages", "4 pages", "5 pages")
}

// spoiler: a way to spoil a place of pages, which tells its new line.
type spoiler func(r *rand.Rand, line string) string

func spoilers() []spoiler {
	words := []string{"-", "0.00", "1.00", "-1.00", "01.00", "1", "7", "-0", "yes", "no", "2024-02-29", "2023-02-29", ":single", ":joint", ":big", "#over", "#wrong", "#", ".", "99999999999.99", "100000000000.00", "1000000001"}
	return []spoiler{
		func(r *rand.Rand, s string) string { // a byte
			b := []byte(s)
			b[r.Intn(72)] = pick(r, []byte(" .>!-[]:#0129azr\x00\t\xff")...)
			return string(b)
		},
		func(r *rand.Rand, s string) string { // another text
			if l := strings.Fields(s); len(l) > 2 && strings.Trim(l[len(l)-2], ".") == "" {
				text := pick(r, words...)
				ahead := strings.TrimRight(s[:72-len(l[len(l)-1])-1], ".")
				return ahead + strings.Repeat(".", max(0, 71-len(ahead)-len(text))) + " " + text
			}
			return s
		},
		func(r *rand.Rand, s string) string { // a digit
			b, at := []byte(s), slices.IndexFunc([]byte(s), func(c byte) bool { return c >= '0' && c <= '9' })
			for i := range b {
				if b[i] >= '0' && b[i] <= '9' && r.Intn(2) == 0 {
					at = i
				}
			}
			if at >= 0 {
				b[at] = byte('0' + r.Intn(10))
			}
			return string(b)
		},
		func(r *rand.Rand, s string) string { // a byte more, one less at the end
			at := r.Intn(72)
			return s[:at] + pick(r, " ", ".", "x", "0") + s[at:71]
		},
		func(r *rand.Rand, s string) string { // a byte less
			at := r.Intn(min(72, 14))
			return s[:at] + s[at+1:] + pick(r, " ", "0", ".")
		},
		func(r *rand.Rand, s string) string { return "" },
	}
}

// spoil spoils a page or two at a place or two, and mends the feet mostly.
func spoil(r *rand.Rand, p api.Pack, pages []string, filled int) []string {
	pages = slices.Clone(pages)
	for range 1 + r.Intn(2) {
		place := r.Intn(min(37*len(pages), filled+2))
		page, line := place/37, 2+place%37
		l := strings.Split(pages[page], "\n")
		if r.Intn(5) == 0 { // two places change, or one stands twice
			other := 2 + r.Intn(37)
			l[line], l[other] = l[other], pick(r, l[line], l[other])
		} else {
			l[line] = fmt.Sprintf("%-72s", pick(r, spoilers()...)(r, l[line]))
		}
		pages[page] = strings.Join(l, "\n")
		if len(pages[page]) == 2920 {
			pages[page] = mended(pages[page])
		}
	}
	switch r.Intn(12) {
	case 0:
		i := r.Intn(len(pages))
		pages[i] = headed(p, pages[i], 1+r.Intn(3), 1+r.Intn(3))
	case 1:
		i, at := r.Intn(len(pages)), r.Intn(2920)
		pages[i] = pages[i][:at] + pick(r, " ", "x", "\n", "=") + pages[i][at+1:]
	case 2:
		pages = slices.Insert(pages, r.Intn(len(pages)+1), pages[0])
	case 3:
		pages = pages[1:]
	case 4, 5: // pages less or more, with the heads that are due
		if len(pages) > 1 && r.Intn(2) == 0 {
			pages = pages[:len(pages)-1]
		} else {
			pages = append(pages, pages[len(pages)-1])
			if r.Intn(2) == 0 {
				none := strings.Repeat(strings.Repeat(" ", 72)+"\n", 40)
				pages[len(pages)-1] = none[:73] + strings.Repeat("=", 72) + none[145:]
			}
		}
		for i := range pages {
			pages[i] = headed(p, pages[i], i+1, len(pages))
		}
	}
	return pages
}

func TestP18_8ByChance(t *testing.T) {
	seen := tally{}
	eachMade(t, 1808, 300, 24, func(r *rand.Rand, p api.Pack, m *model) {
		in, vals := someInputs(r, m), someValues(r, m)
		pages := printed(t, p, in, vals)
		filled := len(m.entries(in, vals))
		for range 40 {
			asModel(t, p, m, spoil(r, p, pages, filled), seen)
		}
	})
	for errno := api.ErrSheetSize; errno <= api.ErrSheetValue; errno++ {
		seen.atLeast(t, 200, fmt.Sprint(errno))
		seen.atLeast(t, 20, fmt.Sprint(int(errno), " at page 1"))
	}
	seen.atLeast(t, 200, fmt.Sprint(api.OK))
}

// What Read takes, Print writes: over the map that was read, and some values.
func TestP18_9ReadTakesNothingElse(t *testing.T) {
	seen := tally{}
	eachMade(t, 1809, 400, 24, func(r *rand.Rand, p api.Pack, m *model) {
		in, vals := someInputs(r, m), someValues(r, m)
		pages := printed(t, p, in, vals)
		filled := len(m.entries(in, vals))
		for range 40 {
			bad := spoil(r, p, pages, filled)
			got, _, _, e := sheet.Read(p, bad)
			if e != api.OK {
				continue
			}
			if slices.Equal(bad, pages) {
				seen["as it was"]++
			} else {
				seen["another one"]++
			}
			if again := m.pages(m.entries(cellsOf(got), shown(m, bad))); !slices.Equal(again, bad) {
				t.Errorf("%s\nis taken, and printed it is %s", strings.Join(bad, ""), strings.Join(again, ""))
			}
			if again, e := sheet.Print(p, got, shown(m, bad)); e != api.OK || !slices.Equal(again, bad) {
				t.Errorf("error %d: %s\nis taken, and printed it is %s", e, strings.Join(bad, ""), strings.Join(again, ""))
			}
		}
	})
	seen.atLeast(t, 50, "another one", "as it was")
}

// shown: values at which a return that was taken is printed as it stands there.
func shown(m *model, pages []string) []api.Value {
	vals := make([]api.Value, m.graph.Cells())
	s := &scan{model: m, in: cells{}}
	row := 0
	for _, page := range pages {
		for _, text := range strings.Split(page, "\n")[2:39] {
			l := strings.Fields(text)
			switch {
			case len(l) == 3 && l[1] == "row":
				row = int(l[2][0] - '1')
			case len(l) == 4 && l[0] == "!":
				name, number, has := strings.Cut(l[1], ".")
				i := slices.IndexFunc(m.pack.Checks, func(c api.Check) bool { return c.Name == name })
				at := 0
				if has {
					at = int(number[0] - '1')
				}
				vals[m.check(i, at)], _ = s.told(-1, l[3])
			case len(l) == 3 && text[0] == ' ':
				i := slices.IndexFunc(m.pack.Lines, func(x api.Line) bool { return x.Name == l[0] })
				at := 0
				if m.pack.Lines[i].Group >= 0 {
					at = row
				}
				vals[m.cell(i, at)], _ = s.told(i, l[2])
			}
		}
	}
	return vals
}
