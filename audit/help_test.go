package audit_test

import (
	"fmt"
	"reflect"
	"slices"
	"testing"

	"levy/api"
	"levy/audit"
	"levy/trie"
)

func op(o int, args ...api.Expr) api.Expr          { return api.Expr{Op: o, Args: args} }
func of(o int, n int64, args ...api.Expr) api.Expr { return api.Expr{Op: o, Num: n, Args: args} }
func line(n int) api.Expr                          { return of(api.OpLine, int64(n)) }
func sum(n int) api.Expr                           { return of(api.OpSum, int64(n)) }
func cents(n int64) api.Expr                       { return of(api.OpCents, n) }
func count(n int64) api.Expr                       { return of(api.OpCount, n) }
func flag(n int64) api.Expr                        { return of(api.OpFlag, n) }
func day(n int64) api.Expr                         { return of(api.OpDay, n) }
func choice(table, option int64) api.Expr {
	return api.Expr{Op: api.OpChoice, Num: option, Den: table}
}

// The values, by their kinds.
var (
	blank   = api.Value{}
	yes, no = val(api.Flag, 1), val(api.Flag, 0)

	over, needed = fault(api.Over), fault(api.Needed)
)

func val(kind int, n int64) api.Value { return api.Value{Kind: kind, Num: n} }
func fault(n int64) api.Value         { return val(api.Fault, n) }
func cent(n int64) api.Value          { return val(api.Cents, n) }
func num(n int64) api.Value           { return val(api.Count, n) }
func date(n int64) api.Value          { return val(api.Day, n) }
func option(n int64) api.Value        { return val(api.Choice, n) }

// named: names that are unlike for unlike numbers below 676.
func named(lead string, n int) string {
	return lead + string([]byte{byte('a' + n/26), byte('a' + n%26)})
}

func input(name string, kind, group int) api.Line {
	return api.Line{Name: name, Input: true, Type: kind, Options: -1, Group: group}
}

// computed: a line with its default.
func computed(name string, kind, group int, body api.Expr) api.Line {
	return api.Line{Name: name, Type: kind, Options: -1, Group: group, Clauses: []api.Clause{{Body: body}}}
}

// must: a line that must be there.
func must(l api.Line) api.Line {
	l.Must = true
	return l
}

func soft(name string, group int, when api.Expr) api.Check {
	return api.Check{Name: name, Group: group, When: when, Text: name + " it is"}
}

func hard(name string, group int, when api.Expr) api.Check {
	c := soft(name, group, when)
	c.Hard = true
	return c
}

// example: the chapter's pack: cells: 0 wage; 1, 2 age; 3, 4 credit; 5 total; 6, 7 the flags; 8 rich.
func example() api.Pack {
	young := op(api.OpIf, op(api.OpLt, line(1), count(17)), cents(200000), cents(0))
	return api.Pack{
		Name: "kids", Year: 2024, Groups: []api.Group{{Name: "kid", Rows: 2}},
		Lines:  []api.Line{must(input("wage", api.Cents, -1)), must(input("age", api.Count, 0)), computed("credit", api.Cents, 0, young), computed("total", api.Cents, -1, sum(2))},
		Checks: []api.Check{{Name: "rich", Hard: true, Group: -1, Text: "too much", When: op(api.OpGt, line(0), cents(100000000))}},
	}
}

// several: lines and checks of all sorts, in no group and in two groups of two rows and of one; their order is that of no rule. Cells: 0 free (input); 1, 2 a (input, must, of kid); 3 b (computed, must); 4, 5 c (computed, of kid); 6 d (input, must, of slip); 7, 8 the flags of kid; 9 the flag of slip; 10 s (soft); 11, 12 h (hard, of kid); 13, 14 k (soft, of kid); 15 g (hard); 16 z (hard, of slip).
func several() api.Pack {
	return api.Pack{
		Name: "several", Year: 2024, Groups: []api.Group{{Name: "kid", Rows: 2}, {Name: "slip", Rows: 1}},
		Lines: []api.Line{
			input("free", api.Cents, -1), must(input("a", api.Cents, 0)), must(computed("b", api.Cents, -1, line(0))),
			computed("c", api.Cents, 0, line(1)), must(input("d", api.Flag, 1)),
		},
		Checks: []api.Check{
			soft("s", -1, flag(0)), hard("h", 0, flag(0)), soft("k", 0, flag(0)), hard("g", -1, flag(0)), hard("z", 1, line(4)),
		},
	}
}

// still: values of several's cells of which nothing is found, all rows being used.
func still() []api.Value {
	l := make([]api.Value, 17)
	for cell := range l {
		switch {
		case cell < 6:
			l[cell] = cent(int64(cell))
		case cell >= 7 && cell <= 9:
			l[cell] = yes
		default:
			l[cell] = no
		}
	}
	return l
}

// but: values, with others at some cells.
func but(l []api.Value, others ...api.Read) []api.Value {
	l = slices.Clone(l)
	for _, x := range others {
		l[x.Cell] = x.Seen
	}
	return l
}

func made(t *testing.T, p api.Pack) *audit.Auditor {
	t.Helper()
	a, e := audit.New(p)
	if a == nil || e != api.OK {
		t.Fatalf("New(%+v): error %d", p, e)
	}
	return a
}

func at(cell uint32, v api.Value) api.Read { return api.Read{Cell: cell, Seen: v} }

func inputs(l ...api.Read) *trie.Map {
	in := trie.Empty()
	for _, x := range l {
		in = in.Put(x.Cell, x.Seen)
	}
	return in
}

// reader: it tells values, and notes which were asked for.
type reader struct {
	vals  []api.Value
	asked []uint32
}

func reads(l ...api.Value) *reader { return &reader{vals: l} }

func (r *reader) read(cell uint32) api.Value {
	r.asked = append(r.asked, cell)
	return r.vals[cell]
}

// wants asks for the cells that were read, and forgets them.
func (r *reader) wants(t *testing.T, what string, want ...uint32) {
	t.Helper()
	if !slices.Equal(r.asked, want) {
		t.Errorf("%s: read %v, want %v", what, r.asked, want)
	}
	r.asked = nil
}

// ofLine, ofCheck: a finding of a rule.
func ofLine(rule, index, row int, v api.Value, name string) api.Finding {
	return api.Finding{Rule: rule, Hard: true, Place: api.Place{Kind: api.PlaceLine, Index: index, Row: row}, Val: v, Text: name}
}

func ofCheck(rule int, hard bool, index, row int, v api.Value, text string) api.Finding {
	return api.Finding{Rule: rule, Hard: hard, Place: api.Place{Kind: api.PlaceCheck, Index: index, Row: row}, Val: v, Text: text}
}

// finds asks for what Run answers, and for First and May as P14.9 has them.
func finds(t *testing.T, what string, a *audit.Auditor, vals []api.Value, want ...api.Finding) {
	t.Helper()
	if got := a.Run(reads(vals...).read); !slices.Equal(got, want) {
		t.Errorf("%s: Run: %+v, want %+v", what, got, want)
	}
	f, ok := a.First(reads(vals...).read)
	if ok != (len(want) > 0) || !ok && f != (api.Finding{}) || ok && f != want[0] {
		t.Errorf("%s: First: %+v, %t, want the first of %+v", what, f, ok, want)
	}
	hard := slices.ContainsFunc(want, func(f api.Finding) bool { return f.Hard })
	if may := a.May(reads(vals...).read); may == hard {
		t.Errorf("%s: May: %t, with %+v", what, may, want)
	}
}

// eachList calls do with every list of a value, those in its spare room aside, the inner ones first.
func eachList(v reflect.Value, do func(reflect.Value)) {
	switch v.Kind() {
	case reflect.Struct:
		for i := range v.NumField() {
			eachList(v.Field(i), do)
		}
	case reflect.Slice:
		for i := range v.Len() {
			eachList(v.Index(i), do)
		}
		do(v)
	}
}

// junk: a value of a type that no test puts there.
func junk(t reflect.Type) reflect.Value {
	v := reflect.New(t).Elem()
	switch t.Kind() {
	case reflect.Struct:
		for i := range t.NumField() {
			v.Field(i).Set(junk(t.Field(i).Type))
		}
	case reflect.Int, reflect.Int64:
		v.SetInt(-987654321)
	case reflect.Uint32:
		v.SetUint(987654321)
	case reflect.String:
		v.SetString("junk")
	case reflect.Bool:
		v.SetBool(true)
	}
	return v
}

// roomy gives every list of a thing spare room with something in it.
func roomy(thing any) {
	eachList(reflect.ValueOf(thing).Elem(), func(l reflect.Value) {
		n := l.Len()
		l.Set(reflect.Append(l, junk(l.Type().Elem()), junk(l.Type().Elem())).Slice(0, n))
	})
}

// laidOpen tells a thing with all spare room.
func laidOpen(thing any) string {
	v := reflect.ValueOf(thing).Elem()
	s := fmt.Sprintf("%+v", v.Interface())
	eachList(v, func(l reflect.Value) { s += fmt.Sprintf("%+v", l.Slice(0, l.Cap()).Interface()) })
	return s
}

// scribble writes junk into all that the lists of a thing have, spare room too.
func scribble(thing any) {
	eachList(reflect.ValueOf(thing).Elem(), func(l reflect.Value) {
		all := l.Slice(0, l.Cap())
		for i := range all.Len() {
			all.Index(i).Set(junk(l.Type().Elem()))
		}
	})
}
