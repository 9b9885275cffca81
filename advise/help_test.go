package advise_test

import (
	"fmt"
	"iter"
	"reflect"
	"slices"
	"testing"

	"levy/advise"
	"levy/api"
	"levy/trie"
)

func op(o int, args ...api.Expr) api.Expr          { return api.Expr{Op: o, Args: args} }
func of(o int, n int64, args ...api.Expr) api.Expr { return api.Expr{Op: o, Num: n, Args: args} }
func line(n int) api.Expr                          { return of(api.OpLine, int64(n)) }
func sum(n int) api.Expr                           { return of(api.OpSum, int64(n)) }
func cents(n int64) api.Expr                       { return of(api.OpCents, n) }
func count(n int64) api.Expr                       { return of(api.OpCount, n) }
func flag(n int64) api.Expr                        { return of(api.OpFlag, n) }
func day(n int64) api.Expr                         { return of(api.OpDay, n) }
func choice(table, option int64) api.Expr {
	return api.Expr{Op: api.OpChoice, Num: option, Den: table}
}

// either: an expression that is the one amount, if a flag is true, else the other one.
func either(is, yes, no api.Expr) api.Expr { return op(api.OpIf, is, yes, no) }

// The values, by their kinds.
var (
	blank   = api.Value{}
	yes, no = val(api.Flag, 1), val(api.Flag, 0)

	over, needed, zero = fault(api.Over), fault(api.Needed), fault(api.Zero)
)

func val(kind int, n int64) api.Value { return api.Value{Kind: kind, Num: n} }
func fault(n int64) api.Value         { return val(api.Fault, n) }
func cent(n int64) api.Value          { return val(api.Cents, n) }
func num(n int64) api.Value           { return val(api.Count, n) }
func date(n int64) api.Value          { return val(api.Day, n) }
func option(n int64) api.Value        { return val(api.Choice, n) }

// named: names that are unlike for unlike numbers below 676.
func named(lead string, n int) string {
	return lead + string([]byte{byte('a' + n/26), byte('a' + n%26)})
}

// optionsOf: an options' table of so many options.
func optionsOf(name string, many int) api.Options {
	o := api.Options{Name: name}
	for i := range many {
		o.Names = append(o.Names, named("o", i))
	}
	return o
}

func input(name string, kind, group int) api.Line {
	return api.Line{Name: name, Input: true, Type: kind, Options: -1, Group: group}
}

// choosing: an input line of choices.
func choosing(name string, table, group int) api.Line {
	return api.Line{Name: name, Input: true, Type: api.Choice, Options: table, Group: group}
}

// computed: a line with its default.
func computed(name string, kind, group int, body api.Expr) api.Line {
	return api.Line{Name: name, Type: kind, Options: -1, Group: group, Clauses: []api.Clause{{Body: body}}}
}

// example: the chapter's pack: cells 0 status, 1 old, 2 tax.
func example() api.Pack {
	old := either(line(1), cents(9000), cents(10000))
	return api.Pack{
		Name: "two", Year: 2024, Options: []api.Options{{Name: "filing", Names: []string{"single", "joint"}}},
		Lines: []api.Line{choosing("status", 0, -1), input("old", api.Flag, -1), computed("tax", api.Cents, -1, either(op(api.OpEq, line(0), choice(0, 0)), cents(10000), old))},
	}
}

// allKinds: lines of all kinds, inputs and computed ones, in no group and in one of two rows, and checks. Cells: 0 to 4 c, n, f, d, o; 5 to 14 kc, kn, kf, kd, ko; 15 to 19 and 20 to 29 the same, computed; 30, 31 the flags of kid; 32 the flag of slip; 33, 34 the check of kid; 35 the other one. Of o there are three options.
func allKinds() api.Pack {
	p := api.Pack{
		Name: "all", Year: 2024, Groups: []api.Group{{Name: "kid", Rows: 2}, {Name: "slip", Rows: 1}},
		Options: []api.Options{optionsOf("other", 5), optionsOf("status", 3)},
		Checks:  []api.Check{{Name: "one", Group: 0, When: line(7), Text: "so"}, {Name: "two", Group: -1, When: line(2), Text: "so"}},
	}
	for i, lead := range []string{"", "k", "x", "kx"} {
		for kind, name := range []string{"c", "n", "f", "d", "o"} {
			l := input(lead+name, kind+1, i%2-1)
			if i >= 2 {
				l = computed(lead+name, kind+1, i%2-1, line(len(p.Lines)-10))
			}
			if l.Type == api.Choice {
				l.Options = 1
			}
			p.Lines = append(p.Lines, l)
		}
	}
	return p
}

// weighed: flags of no group, as many as there are weights, and behind them a line that is the sum of the weights of those that are true: so each way may be told what it is to be worth.
func weighed(weights ...int64) api.Pack {
	p := api.Pack{Name: "weighed", Year: 2024}
	total := cents(0)
	for i, w := range weights {
		p.Lines = append(p.Lines, input(named("f", i), api.Flag, -1))
		p.Lines = append(p.Lines, computed(named("s", i), api.Cents, -1, op(api.OpAdd, total, either(line(2*i), cents(w), cents(0)))))
		total = line(2*i + 1)
	}
	return p
}

// inputs: a map of cells with values.
func inputs(l ...api.Entry) *trie.Map {
	m := trie.Empty()
	for _, e := range l {
		m = m.Put(e.Id, e.Val)
	}
	return m
}

func at(cell uint32, v api.Value) api.Entry { return api.Entry{Id: cell, Val: v} }

// way: a list of picks, and what it is worth.
type way struct {
	picks []api.Value
	worth api.Value
}

func (w way) String() string { return fmt.Sprint(w.picks, " ", w.worth) }

func sameWay(a, b way) bool { return slices.Equal(a.picks, b.picks) && a.worth == b.worth }

// waysOf: what an iterator gives, as it stands when it is given.
func waysOf(seq iter.Seq2[[]api.Value, api.Value]) []way {
	var l []way
	for picks, worth := range seq {
		l = append(l, way{slices.Clone(picks), worth})
	}
	return l
}

// gives asks for what All gives.
func gives(t *testing.T, what string, seq iter.Seq2[[]api.Value, api.Value], want ...way) {
	t.Helper()
	if l := waysOf(seq); !slices.EqualFunc(l, want, sameWay) {
		t.Errorf("%s: %v, want %v", what, l, want)
	}
}

func sameAdvice(a, b api.Advice) bool {
	return slices.Equal(a.Picks, b.Picks) && a.Val == b.Val && a.Tried == b.Tried && a.Ok == b.Ok
}

// found: advice that there is.
func found(tried int, worth api.Value, picks ...api.Value) api.Advice {
	return api.Advice{Picks: picks, Val: worth, Tried: tried, Ok: true}
}

// none: advice that there isn't.
func none(tried int) api.Advice { return api.Advice{Tried: tried} }

// advises asks for what Best answers without an error: least, then most.
func advises(t *testing.T, what string, p api.Pack, in *trie.Map, cells []uint32, target uint32, least, most api.Advice) {
	t.Helper()
	for i, want := range []api.Advice{least, most} {
		if a, e := advise.Best(p, in, cells, target, i == 1); !sameAdvice(a, want) || e != api.OK {
			t.Errorf("%s: Best(%v, %d, most: %t): %+v, error %d, want %+v", what, cells, target, i == 1, a, e, want)
		}
	}
}

// refuses asks for Best's error, and for All to give nothing.
func refuses(t *testing.T, what string, p api.Pack, in *trie.Map, cells []uint32, target uint32, want api.Errno) {
	t.Helper()
	for _, most := range []bool{false, true} {
		if a, e := advise.Best(p, in, cells, target, most); !sameAdvice(a, api.Advice{}) || e != want {
			t.Errorf("%s: Best(%v, %d): %+v, error %d, want error %d", what, cells, target, a, e, want)
		}
	}
	seq := advise.All(p, in, cells, target)
	if seq == nil {
		t.Fatalf("%s: no iterator", what)
	}
	gives(t, what, seq)
}

// takes asks for Best to answer no error, and for as many ways.
func takes(t *testing.T, what string, p api.Pack, in *trie.Map, cells []uint32, target uint32, tried int) {
	t.Helper()
	if a, e := advise.Best(p, in, cells, target, false); e != api.OK || a.Tried != tried {
		t.Errorf("%s: Best(%v, %d): %+v, error %d, want %d ways", what, cells, target, a, e, tried)
	}
	if n := len(waysOf(advise.All(p, in, cells, target))); n != tried {
		t.Errorf("%s: All(%v, %d): %d ways, want %d", what, cells, target, n, tried)
	}
}

// eachList calls do with every list of a value, those in its spare room aside, the inner ones first.
func eachList(v reflect.Value, do func(reflect.Value)) {
	switch v.Kind() {
	case reflect.Struct:
		for i := range v.NumField() {
			eachList(v.Field(i), do)
		}
	case reflect.Slice:
		for i := range v.Len() {
			eachList(v.Index(i), do)
		}
		do(v)
	}
}

// junk: a value of a type that no test puts there.
func junk(t reflect.Type) reflect.Value {
	v := reflect.New(t).Elem()
	switch t.Kind() {
	case reflect.Struct:
		for i := range t.NumField() {
			v.Field(i).Set(junk(t.Field(i).Type))
		}
	case reflect.Int, reflect.Int64:
		v.SetInt(-987654321)
	case reflect.Uint32:
		v.SetUint(987654321)
	case reflect.String:
		v.SetString("junk")
	case reflect.Bool:
		v.SetBool(true)
	}
	return v
}

// roomy gives every list of a thing spare room with something in it.
func roomy(thing any) {
	eachList(reflect.ValueOf(thing).Elem(), func(l reflect.Value) {
		n := l.Len()
		l.Set(reflect.Append(l, junk(l.Type().Elem()), junk(l.Type().Elem())).Slice(0, n))
	})
}

// laidOpen tells a thing with all spare room.
func laidOpen(thing any) string {
	v := reflect.ValueOf(thing).Elem()
	s := fmt.Sprintf("%+v", v.Interface())
	eachList(v, func(l reflect.Value) { s += fmt.Sprintf("%+v", l.Slice(0, l.Cap()).Interface()) })
	return s
}

// scribble writes junk into all that the lists of a thing have, spare room too.
func scribble(thing any) {
	eachList(reflect.ValueOf(thing).Elem(), func(l reflect.Value) {
		all := l.Slice(0, l.Cap())
		for i := range all.Len() {
			all.Index(i).Set(junk(l.Type().Elem()))
		}
	})
}
