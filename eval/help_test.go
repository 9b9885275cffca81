package eval_test

import (
	"fmt"
	"reflect"
	"slices"
	"strings"
	"testing"

	"levy/api"
	"levy/eval"
	"levy/graph"
	"levy/trie"
)

func op(o int, args ...api.Expr) api.Expr          { return api.Expr{Op: o, Args: args} }
func of(o int, n int64, args ...api.Expr) api.Expr { return api.Expr{Op: o, Num: n, Args: args} }
func line(n int) api.Expr                          { return of(api.OpLine, int64(n)) }
func sum(n int) api.Expr                           { return of(api.OpSum, int64(n)) }
func cents(n int64) api.Expr                       { return of(api.OpCents, n) }
func count(n int64) api.Expr                       { return of(api.OpCount, n) }
func flag(n int64) api.Expr                        { return of(api.OpFlag, n) }
func day(n int64) api.Expr                         { return of(api.OpDay, n) }
func choice(table, option int64) api.Expr {
	return api.Expr{Op: api.OpChoice, Num: option, Den: table}
}

// The values, by their kinds.
var (
	blank   = api.Value{}
	yes, no = val(api.Flag, 1), val(api.Flag, 0)

	over, zero, needed, outside, wrong = fault(api.Over), fault(api.Zero), fault(api.Needed), fault(api.Range), fault(api.Wrong)
)

func val(kind int, n int64) api.Value { return api.Value{Kind: kind, Num: n} }
func fault(n int64) api.Value         { return val(api.Fault, n) }
func cent(n int64) api.Value          { return val(api.Cents, n) }
func num(n int64) api.Value           { return val(api.Count, n) }
func date(n int64) api.Value          { return val(api.Day, n) }
func option(n int64) api.Value        { return val(api.Choice, n) }

// named: names that are unlike for unlike numbers below 676.
func named(lead string, n int) string {
	return lead + string([]byte{byte('a' + n/26), byte('a' + n%26)})
}

func input(name string, kind, group int) api.Line {
	return api.Line{Name: name, Input: true, Type: kind, Options: -1, Group: group}
}

// computed: a line with its default.
func computed(name string, kind, group int, body api.Expr) api.Line {
	return api.Line{Name: name, Type: kind, Options: -1, Group: group, Clauses: []api.Clause{{Body: body}}}
}

func exception(priority int, guard, body api.Expr) api.Clause {
	return api.Clause{Priority: priority, Guarded: true, Guard: guard, Body: body}
}

// example: the pack of chapter 8's first example: cells: 0 wage; 1, 2 age; 3, 4 credit; 5 total; 6, 7 the flags.
func example() api.Pack {
	young := op(api.OpIf, op(api.OpLt, line(1), count(17)), cents(200000), cents(0))
	return api.Pack{
		Name: "kids", Year: 2024, Groups: []api.Group{{Name: "kid", Rows: 2}},
		Lines: []api.Line{input("wage", api.Cents, -1), input("age", api.Count, 0), computed("credit", api.Cents, 0, young), computed("total", api.Cents, -1, sum(2))},
	}
}

// turned: the example, changed.
func turned(does func(p *api.Pack)) api.Pack {
	p := example()
	does(&p)
	return p
}

// made asks for a pack to be made ready.
func made(t *testing.T, p api.Pack) *eval.Eval {
	t.Helper()
	v, e := eval.New(p)
	if v == nil || e != api.OK {
		t.Fatalf("New(%+v): %t, error %d", p, v != nil, e)
	}
	return v
}

func madeGraph(t *testing.T, p api.Pack) *graph.Graph {
	t.Helper()
	g, _, e := graph.New(p)
	if g == nil || e != api.OK {
		t.Fatalf("graph.New(%+v): error %d", p, e)
	}
	return g
}

// refused asks for New's error.
func refused(t *testing.T, what string, p api.Pack, errno api.Errno) {
	t.Helper()
	if v, e := eval.New(p); v != nil || e != errno {
		t.Errorf("%s: New: %t, error %d, want error %d", what, v != nil, e, errno)
	}
}

func at(cell uint32, v api.Value) api.Read { return api.Read{Cell: cell, Seen: v} }

// inputs: a map of what is told of some cells.
func inputs(l ...api.Read) *trie.Map {
	m := trie.Empty()
	for _, x := range l {
		m = m.Put(x.Cell, x.Seen)
	}
	return m
}

// sameNode: whether two nodes are the same, nil and empty lists alike.
func sameNode(a, b api.Node) bool {
	return a.Cell == b.Cell && a.Val == b.Val && a.Clause == b.Clause && slices.Equal(a.Guards, b.Guards) && slices.Equal(a.Reads, b.Reads)
}

// telling tells what a list says of a cell, and finds fault with any other cell.
func telling(t *testing.T, what string, told []api.Read) func(uint32) api.Value {
	return func(cell uint32) api.Value {
		i := slices.IndexFunc(told, func(r api.Read) bool { return r.Cell == cell })
		if i < 0 {
			t.Errorf("%s: the cell %d is read", what, cell)
			return blank
		}
		return told[i].Seen
	}
}

// tells asks for the node of a cell, where just the cells in its Reads are told, and for one call for each of them, in that order.
func tells(t *testing.T, what string, v *eval.Eval, want api.Node) {
	t.Helper()
	var calls []api.Read
	tell := telling(t, what, want.Reads)
	got := v.With(want.Cell, func(cell uint32) api.Value {
		x := tell(cell)
		calls = append(calls, at(cell, x))
		return x
	})
	if !sameNode(got, want) {
		t.Errorf("%s: With(%d): %+v, want %+v", what, want.Cell, got, want)
	}
	if !slices.Equal(calls, want.Reads) {
		t.Errorf("%s: With(%d) calls for %v, want %v", what, want.Cell, calls, want.Reads)
	}
}

// holds asks for what all cells hold, by All and by One.
func holds(t *testing.T, what string, v *eval.Eval, in *trie.Map, want ...api.Value) {
	t.Helper()
	if got := v.All(in); !slices.Equal(got, want) {
		t.Errorf("%s: All: %v, want %v", what, got, want)
	}
	for cell, x := range want {
		if got, e := v.One(in, uint32(cell)); got != x || e != api.OK {
			t.Errorf("%s: One(%d): %v, error %d, want %v", what, cell, got, e, x)
		}
	}
}

// from tells what a list holds by cell; of no cell it is Blank.
func from(l []api.Value) func(uint32) api.Value {
	return func(cell uint32) api.Value {
		if int(cell) >= len(l) {
			return blank
		}
		return l[cell]
	}
}

// text tells all that an Eval answers over a map, and of some numbers beside the cells.
func text(v *eval.Eval, in *trie.Map) string {
	var s strings.Builder
	all := v.All(in)
	fmt.Fprint(&s, v.Fits(in), all)
	for cell := range uint32(len(all) + 2) {
		x, e := v.One(in, cell)
		fmt.Fprint(&s, "\n", cell, x, e, v.With(cell, from(all)), v.With(cell, func(c uint32) api.Value { return val(int(c)%8, int64(cell+c)%3) }))
	}
	for row := range api.MaxRows {
		fmt.Fprint(&s, v.Expr(in, 0, row, line(0)), v.Expr(in, -1, row, of(api.OpUsed, 0)))
	}
	for n := range api.MaxTables {
		fmt.Fprint(&s, v.Expr(in, -1, 0, of(api.OpBracket, int64(n), cents(123456))), v.Expr(in, -1, 0, choice(int64(n), 1)))
	}
	return s.String()
}

// eachList calls do with every list of a value, those in its spare room aside, the inner ones first.
func eachList(v reflect.Value, do func(reflect.Value)) {
	switch v.Kind() {
	case reflect.Struct:
		for i := range v.NumField() {
			eachList(v.Field(i), do)
		}
	case reflect.Slice:
		for i := range v.Len() {
			eachList(v.Index(i), do)
		}
		do(v)
	}
}

// junk: a value of a type that no test puts there.
func junk(t reflect.Type) reflect.Value {
	v := reflect.New(t).Elem()
	switch t.Kind() {
	case reflect.Struct:
		for i := range t.NumField() {
			v.Field(i).Set(junk(t.Field(i).Type))
		}
	case reflect.Int, reflect.Int64:
		v.SetInt(-987654321)
	case reflect.Uint32:
		v.SetUint(987654321)
	case reflect.String:
		v.SetString("junk")
	case reflect.Bool:
		v.SetBool(true)
	}
	return v
}

// roomy gives every list of a thing spare room with something in it.
func roomy(thing any) {
	eachList(reflect.ValueOf(thing).Elem(), func(l reflect.Value) {
		n := l.Len()
		l.Set(reflect.Append(l, junk(l.Type().Elem()), junk(l.Type().Elem())).Slice(0, n))
	})
}

// laidOpen tells a thing with all spare room.
func laidOpen(thing any) string {
	v := reflect.ValueOf(thing).Elem()
	s := fmt.Sprintf("%+v", v.Interface())
	eachList(v, func(l reflect.Value) { s += fmt.Sprintf("%+v", l.Slice(0, l.Cap()).Interface()) })
	return s
}

// scribble writes junk into all that the lists of a thing have, spare room too.
func scribble(thing any) {
	eachList(reflect.ValueOf(thing).Elem(), func(l reflect.Value) {
		all := l.Slice(0, l.Cap())
		for i := range all.Len() {
			all.Index(i).Set(junk(l.Type().Elem()))
		}
	})
}
