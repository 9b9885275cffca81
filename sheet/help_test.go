package sheet_test

import (
	"fmt"
	"maps"
	"reflect"
	"slices"
	"strings"
	"testing"

	"levy/api"
	"levy/eval"
	"levy/sheet"
	"levy/trie"
)

func op(o int, args ...api.Expr) api.Expr          { return api.Expr{Op: o, Args: args} }
func of(o int, n int64, args ...api.Expr) api.Expr { return api.Expr{Op: o, Num: n, Args: args} }
func line(n int) api.Expr                          { return of(api.OpLine, int64(n)) }

// The values, by their kinds.
var (
	blank   = api.Value{}
	yes, no = val(api.Flag, 1), val(api.Flag, 0)
)

func val(kind int, n int64) api.Value { return api.Value{Kind: kind, Num: n} }
func fault(n int64) api.Value         { return val(api.Fault, n) }
func cent(n int64) api.Value          { return val(api.Cents, n) }
func num(n int64) api.Value           { return val(api.Count, n) }
func date(n int64) api.Value          { return val(api.Day, n) }
func option(n int64) api.Value        { return val(api.Choice, n) }

// named: names that are unlike for unlike numbers below 676.
func named(lead string, n int) string {
	return lead + string([]byte{byte('a' + n/26), byte('a' + n%26)})
}

func input(name string, kind, group int) api.Line {
	return api.Line{Name: name, Input: true, Type: kind, Options: -1, Group: group}
}

// computed: a line with its default.
func computed(name string, kind, group int, body api.Expr) api.Line {
	return api.Line{Name: name, Type: kind, Options: -1, Group: group, Clauses: []api.Clause{{Body: body}}}
}

// chosen: a line of choices of the first options' table.
func chosen(l api.Line) api.Line {
	l.Type, l.Options = api.Choice, 0
	return l
}

func check(name string, group int) api.Check {
	return api.Check{Name: name, Group: group, When: of(api.OpFlag, 0), Text: name}
}

// example: the chapter's pack: cells: 0 wage; 1, 2 age; 3, 4 credit; 5 total; 6, 7 the flags.
func example() api.Pack {
	young := op(api.OpIf, op(api.OpLt, line(1), of(api.OpCount, 17)), of(api.OpCents, 200000), of(api.OpCents, 0))
	return api.Pack{
		Name: "kids", Year: 2025, Groups: []api.Group{{Name: "kid", Rows: 2}},
		Lines: []api.Line{input("wage", api.Cents, -1), input("age", api.Count, 0), computed("credit", api.Cents, 0, young), computed("total", api.Cents, -1, of(api.OpSum, 2))},
	}
}

// nine: the chapter's inputs.
func nine() cells { return cells{0: cent(500000), 7: yes, 2: num(9)} }

// mixed: lines whose order is that of no group, a group without lines, and checks. Cells: 0 a (input of late); 1, 2, 3 b (input of early); 4 c (input); 5, 6, 7 d (computed, of early); 8 e (input of late); 9 f (computed); 10, 11, 12 g (input of early); 13 h (input); 14, 15, 16 the flags of early; 17, 18 the flags of bare; 19 the flag of late; 20, 21, 22 k (check of early); 23 l (check); 24 m (check of late); 25, 26 n (check of bare); 27 o (check).
func mixed() api.Pack {
	return api.Pack{
		Name: "mixed", Year: 2024, Groups: []api.Group{{Name: "early", Rows: 3}, {Name: "bare", Rows: 2}, {Name: "late", Rows: 1}},
		Options: []api.Options{{Name: "size", Names: []string{"small", "big"}}},
		Lines: []api.Line{
			input("a", api.Cents, 2), input("b", api.Cents, 0), chosen(input("c", api.Cents, -1)), computed("d", api.Cents, 0, line(1)), input("e", api.Flag, 2),
			chosen(computed("f", api.Cents, -1, line(2))), input("g", api.Count, 0), input("h", api.Day, -1),
		},
		Checks: []api.Check{check("k", 0), check("l", -1), check("m", 2), check("n", 1), check("o", -1)},
	}
}

// full: inputs of mixed at which all rows are used.
func full() cells {
	return cells{0: cent(-1), 1: cent(100), 2: cent(200), 4: option(1), 8: yes, 10: num(1), 12: num(3), 13: date(0), 14: yes, 15: yes, 16: yes, 17: yes, 18: yes, 19: yes}
}

// mixedValues: what mixed's computed cells hold over any inputs, each something else; at all others stands what no cell may hold.
func mixedValues() []api.Value {
	l := slices.Repeat([]api.Value{val(99, 99)}, 28)
	l[5], l[6], l[7], l[9] = cent(5), fault(api.Over), blank, option(0)
	for i := range 8 {
		l[20+i] = []api.Value{yes, no, blank, yes, fault(api.Needed), no, yes, no}[i]
	}
	return l
}

// plain: so many input lines of no group, of cents, and so many checks.
func plain(lines, checks int) api.Pack {
	p := api.Pack{Name: "plain", Year: 2000}
	for i := range lines {
		p.Lines = append(p.Lines, input(named("l", i), api.Cents, -1))
	}
	for i := range checks {
		p.Checks = append(p.Checks, check(named("c", i), -1))
	}
	return p
}

// greatest: 256 cells: four groups of eight rows, 26 columns, of which the last two are computed, and two checks of groups.
func greatest() api.Pack {
	p := api.Pack{Name: "great", Year: 2024}
	for i := range api.MaxGroups {
		p.Groups = append(p.Groups, api.Group{Name: named("g", i), Rows: api.MaxRows})
	}
	for i := range 24 {
		p.Lines = append(p.Lines, input(named("l", i), api.Cents, i%4))
	}
	p.Lines = append(p.Lines, computed("y", api.Cents, 2, line(2)), computed("z", api.Cents, 3, line(3)))
	p.Checks = []api.Check{check("one", 2), check("two", 3)}
	return p
}

// allUsed: the flags of all rows of a pack.
func allUsed(t *testing.T, p api.Pack) cells {
	t.Helper()
	m, c := modelOf(t, p), cells{}
	for group, g := range p.Groups {
		for row := range g.Rows {
			c[m.flag(group, row)] = yes
		}
	}
	return c
}

// cells: what a map holds, by key.
type cells map[uint32]api.Value

func (c cells) with(key uint32, v api.Value) cells {
	c = maps.Clone(c)
	c[key] = v
	return c
}

func (c cells) without(keys ...uint32) cells {
	c = maps.Clone(c)
	for _, key := range keys {
		delete(c, key)
	}
	return c
}

func mapOf(c cells) *trie.Map {
	m := trie.Empty()
	for _, key := range slices.Sorted(maps.Keys(c)) {
		m = m.Put(key, c[key])
	}
	return m
}

func cellsOf(m *trie.Map) cells { return cells(maps.Collect(m.All())) }

// worth: what all cells hold over inputs.
func worth(t *testing.T, p api.Pack, in cells) []api.Value {
	t.Helper()
	v, e := eval.New(p)
	if e != api.OK {
		t.Fatalf("eval.New(%+v): error %d", p, e)
	}
	return v.All(mapOf(in))
}

// printed: the pages that Print answers.
func printed(t *testing.T, p api.Pack, in cells, vals []api.Value) []string {
	t.Helper()
	pages, e := sheet.Print(p, mapOf(in), vals)
	if e != api.OK || len(pages) == 0 {
		t.Fatalf("Print of %v: %d pages, error %d", in, len(pages), e)
	}
	return pages
}

// reckoned: the pages of a return whose values are those that eval tells.
func reckoned(t *testing.T, p api.Pack, in cells) []string {
	t.Helper()
	return printed(t, p, in, worth(t, p, in))
}

// refuses asks for an error of Print, and no pages.
func refuses(t *testing.T, what string, p api.Pack, in *trie.Map, vals []api.Value, want api.Errno) {
	t.Helper()
	if pages, e := sheet.Print(p, in, vals); e != want || len(pages) != 0 {
		t.Errorf("%s: %d pages, error %d, want %d", what, len(pages), e, want)
	}
}

// reads asks for the inputs that Read tells.
func reads(t *testing.T, what string, p api.Pack, pages []string, want cells) {
	t.Helper()
	m, page, line, e := sheet.Read(p, pages)
	if e != api.OK || m == nil || page != 0 || line != 0 {
		t.Errorf("%s: error %d at %d, %d", what, e, page, line)
		return
	}
	if m.Len() != len(want) || !maps.Equal(cellsOf(m), want) {
		t.Errorf("%s: %v, want %v", what, cellsOf(m), want)
	}
}

// faults asks for a fault that Read tells, and no map.
func faults(t *testing.T, what string, p api.Pack, pages []string, page, line int, want api.Errno) {
	t.Helper()
	if m, x, y, e := sheet.Read(p, pages); m != nil || x != page || y != line || e != want {
		t.Errorf("%s: error %d at %d, %d (a map: %t), want %d at %d, %d", what, e, x, y, m != nil, want, page, line)
	}
}

// linesOf: the lines of a page, which must be one.
func linesOf(t *testing.T, page string) []string {
	t.Helper()
	l := strings.Split(page, "\n")
	if len(l) != 41 || l[40] != "" {
		t.Fatalf("%d lines", len(l)-1)
	}
	for i, s := range l[:40] {
		if len(s) != 72 {
			t.Fatalf("line %d has %d bytes: %q", i, len(s), s)
		}
	}
	return l[:40]
}

// placesOf: what stands at all places of pages, without blanks at the end.
func placesOf(t *testing.T, pages []string) []string {
	t.Helper()
	var l []string
	for _, page := range pages {
		for _, s := range linesOf(t, page)[2:39] {
			l = append(l, strings.TrimRight(s, " "))
		}
	}
	return l
}

// with: pages in which a line is another one, with its foot mended.
func with(pages []string, page, line int, text string) []string {
	pages = slices.Clone(pages)
	b := []byte(pages[page])
	copy(b[73*line:73*line+72], fmt.Sprintf("%-72s", text))
	pages[page] = mended(string(b))
	return pages
}

// mended: a page with the foot that is due.
func mended(page string) string {
	ahead := page[:73*39]
	return ahead + footOf(ahead) + "\n"
}

// footOf: P18.1, P7.5: the foot of what stands ahead of it.
func footOf(ahead string) string {
	h := uint32(2166136261)
	for _, b := range []byte(ahead) {
		h = (h ^ uint32(b)) * 16777619
	}
	return fmt.Sprintf("%s%08x", strings.Repeat("-", 64), h)
}

// headed: a page with the head of a page and number.
func headed(p api.Pack, page string, number, many int) string {
	return mended(headOf(p, number, many) + page[72:])
}

func headOf(p api.Pack, number, many int) string {
	left, right := fmt.Sprintf("%s %04d", p.Name, p.Year), fmt.Sprintf("page %d of %d", number, many)
	return left + strings.Repeat(" ", 72-len(left)-len(right)) + right
}

// entry: the text of a value entry: what stands ahead of the points, and the value's text.
func entry(ahead, text string) string {
	return ahead + " " + strings.Repeat(".", 70-len(ahead)-len(text)) + " " + text
}

// tally: how often things came about, so that a test by chance can't pass by missing them.
type tally map[string]int

func (c tally) atLeast(t *testing.T, n int, whats ...string) {
	t.Helper()
	for _, what := range whats {
		if c[what] < n {
			t.Errorf("%s: %d times", what, c[what])
		}
	}
}

// eachList calls do with every list of a value, those in its spare room aside, the inner ones first.
func eachList(v reflect.Value, do func(reflect.Value)) {
	switch v.Kind() {
	case reflect.Struct:
		for i := range v.NumField() {
			eachList(v.Field(i), do)
		}
	case reflect.Slice:
		for i := range v.Len() {
			eachList(v.Index(i), do)
		}
		do(v)
	}
}

// junk: a value of a type that no test puts there.
func junk(t reflect.Type) reflect.Value {
	v := reflect.New(t).Elem()
	switch t.Kind() {
	case reflect.Struct:
		for i := range t.NumField() {
			v.Field(i).Set(junk(t.Field(i).Type))
		}
	case reflect.Int, reflect.Int64:
		v.SetInt(-987654321)
	case reflect.String:
		v.SetString("junk")
	case reflect.Bool:
		v.SetBool(true)
	}
	return v
}

// roomy gives every list of a thing spare room with something in it.
func roomy(thing any) {
	eachList(reflect.ValueOf(thing).Elem(), func(l reflect.Value) {
		n := l.Len()
		l.Set(reflect.Append(l, junk(l.Type().Elem()), junk(l.Type().Elem())).Slice(0, n))
	})
}

// laidOpen tells a thing with all spare room.
func laidOpen(thing any) string {
	v := reflect.ValueOf(thing).Elem()
	s := fmt.Sprintf("%+v", v.Interface())
	eachList(v, func(l reflect.Value) { s += fmt.Sprintf("%+v", l.Slice(0, l.Cap()).Interface()) })
	return s
}

// scribble writes junk into all that the lists of a thing have, spare room too.
func scribble(thing any) {
	eachList(reflect.ValueOf(thing).Elem(), func(l reflect.Value) {
		all := l.Slice(0, l.Cap())
		for i := range all.Len() {
			all.Index(i).Set(junk(l.Type().Elem()))
		}
	})
}
