package trace_test

import (
	"fmt"
	"reflect"
	"slices"
	"strings"
	"testing"

	"levy/api"
	"levy/incr"
	"levy/trace"
	"levy/trie"
)

func op(o int, args ...api.Expr) api.Expr          { return api.Expr{Op: o, Args: args} }
func of(o int, n int64, args ...api.Expr) api.Expr { return api.Expr{Op: o, Num: n, Args: args} }
func line(n int) api.Expr                          { return of(api.OpLine, int64(n)) }
func sum(n int) api.Expr                           { return of(api.OpSum, int64(n)) }
func cents(n int64) api.Expr                       { return of(api.OpCents, n) }
func count(n int64) api.Expr                       { return of(api.OpCount, n) }
func flag(n int64) api.Expr                        { return of(api.OpFlag, n) }
func day(n int64) api.Expr                         { return of(api.OpDay, n) }
func choice(table, option int64) api.Expr {
	return api.Expr{Op: api.OpChoice, Num: option, Den: table}
}

// The values, by their kinds.
var (
	blank   = api.Value{}
	yes, no = val(api.Flag, 1), val(api.Flag, 0)

	over, needed, wrong = fault(api.Over), fault(api.Needed), fault(api.Wrong)
)

func val(kind int, n int64) api.Value { return api.Value{Kind: kind, Num: n} }
func fault(n int64) api.Value         { return val(api.Fault, n) }
func cent(n int64) api.Value          { return val(api.Cents, n) }
func num(n int64) api.Value           { return val(api.Count, n) }
func date(n int64) api.Value          { return val(api.Day, n) }
func option(n int64) api.Value        { return val(api.Choice, n) }

// named: names that are unlike for unlike numbers below 676.
func named(lead string, n int) string {
	return lead + string([]byte{byte('a' + n/26), byte('a' + n%26)})
}

func input(name string, kind, group int) api.Line {
	return api.Line{Name: name, Input: true, Type: kind, Options: -1, Group: group}
}

// computed: a line with its default.
func computed(name string, kind, group int, body api.Expr) api.Line {
	return api.Line{Name: name, Type: kind, Options: -1, Group: group, Clauses: []api.Clause{{Body: body}}}
}

func exception(priority int, guard, body api.Expr) api.Clause {
	return api.Clause{Priority: priority, Guarded: true, Guard: guard, Body: body}
}

// example: the pack of chapter 8's first example: cells: 0 wage; 1, 2 age; 3, 4 credit; 5 total; 6, 7 the flags.
func example() api.Pack {
	young := op(api.OpIf, op(api.OpLt, line(1), count(17)), cents(200000), cents(0))
	return api.Pack{
		Name: "kids", Year: 2024, Groups: []api.Group{{Name: "kid", Rows: 2}},
		Lines: []api.Line{input("wage", api.Cents, -1), input("age", api.Count, 0), computed("credit", api.Cents, 0, young), computed("total", api.Cents, -1, sum(2))},
	}
}

// turned: the example, changed.
func turned(does func(p *api.Pack)) api.Pack {
	p := example()
	does(&p)
	return p
}

// flat: a pack of lines of no group, so that cells have the lines' numbers.
func flat(l ...api.Line) api.Pack { return api.Pack{Name: "flat", Year: 2024, Lines: l} }

// allKinds: input lines of all kinds, in no group and in one of two rows, and checks. Cells: 0 to 4 c, n, f, d, o; 5 to 14 kc, kn, kf, kd, ko; 15 x; 16, 17 kx; 18, 19 the flags of kid; 20 the flag of slip; 21, 22 the check of kid, 23 the other one.
func allKinds() api.Pack {
	p := api.Pack{
		Name: "all", Year: 2024, Groups: []api.Group{{Name: "kid", Rows: 2}, {Name: "slip", Rows: 1}},
		Options: []api.Options{{Name: "other", Names: []string{"a", "b", "c", "d"}}, {Name: "status", Names: []string{"single", "joint"}}},
	}
	for group, lead := range []string{"", "k"} {
		for kind, name := range []string{"c", "n", "f", "d", "o"} {
			p.Lines = append(p.Lines, input(lead+name, kind+1, group-1))
		}
		p.Lines[5*group+4].Options = 1
	}
	p.Lines = append(p.Lines, computed("x", api.Cents, -1, line(0)), computed("kx", api.Cents, 0, line(5)))
	p.Checks = []api.Check{{Name: "one", Group: 0, When: line(7), Text: "so"}, {Name: "two", Group: -1, When: line(2), Text: "so"}}
	return p
}

// memo: a memo of a pack, over some inputs.
func memo(t *testing.T, p api.Pack, l ...api.Read) *incr.Memo {
	t.Helper()
	m, e := incr.New(p)
	if m == nil || e != api.OK {
		t.Fatalf("incr.New(%+v): error %d", p, e)
	}
	if _, e := m.Load(inputs(l...).All()); e != api.OK {
		t.Fatalf("Load(%v): error %d", l, e)
	}
	return m
}

func at(cell uint32, v api.Value) api.Read { return api.Read{Cell: cell, Seen: v} }

func inputs(l ...api.Read) *trie.Map {
	in := trie.Empty()
	for _, x := range l {
		in = in.Put(x.Cell, x.Seen)
	}
	return in
}

// node: a node without guards.
func node(cell uint32, v api.Value, clause int, reads ...api.Read) api.Node {
	return api.Node{Cell: cell, Val: v, Clause: clause, Reads: reads}
}

// asking: a node with guards.
func asking(n api.Node, guards ...api.Value) api.Node {
	n.Guards = guards
	return n
}

func traced(nodes ...api.Node) api.Trace { return api.Trace{Nodes: nodes} }

// explains asks for what Explain answers.
func explains(t *testing.T, m *incr.Memo, cell uint32, want ...api.Node) {
	t.Helper()
	if x, e := trace.Explain(m, cell); !sameNodes(x.Nodes, want) || e != api.OK {
		t.Errorf("Explain(%d): %+v, error %d, want %+v", cell, x.Nodes, e, want)
	}
}

// refuses asks for Explain's error, and for a memo that is what it was.
func refuses(t *testing.T, m *incr.Memo, cells ...uint32) {
	t.Helper()
	for _, cell := range cells {
		was := state(m)
		if x, e := trace.Explain(m, cell); len(x.Nodes) != 0 || e != api.ErrTraceCell {
			t.Errorf("Explain(%d): %+v, error %d, want error %d", cell, x, e, api.ErrTraceCell)
		}
		if state(m) != was {
			t.Errorf("Explain(%d), which is refused: %s, was %s", cell, state(m), was)
		}
	}
}

// explained: what Explain answers of a cell that is a computed one.
func explained(t *testing.T, m *incr.Memo, cell uint32) api.Trace {
	t.Helper()
	x, e := trace.Explain(m, cell)
	if e != api.OK {
		t.Fatalf("Explain(%d): error %d", cell, e)
	}
	return x
}

// checks asks for what Check answers.
func checks(t *testing.T, what string, p api.Pack, in *trie.Map, x api.Trace, place int, errno api.Errno) {
	t.Helper()
	if n, e := trace.Check(p, in, x); n != place || e != errno {
		t.Errorf("%s: Check: %d, error %d, want %d, error %d", what, n, e, place, errno)
	}
}

// prints asks for what Print answers.
func prints(t *testing.T, p api.Pack, x api.Trace, want ...string) {
	t.Helper()
	if got := trace.Print(p, x); got != strings.Join(want, "") {
		t.Errorf("Print: %q, want %q", got, strings.Join(want, ""))
	}
}

// sameNode: whether two nodes are the same, nil and empty lists alike.
func sameNode(a, b api.Node) bool {
	return a.Cell == b.Cell && a.Val == b.Val && a.Clause == b.Clause && slices.Equal(a.Guards, b.Guards) && slices.Equal(a.Reads, b.Reads)
}

func sameNodes(a, b []api.Node) bool { return slices.EqualFunc(a, b, sameNode) }

// copied: a trace that shares nothing with another one.
func copied(x api.Trace) api.Trace {
	l := slices.Clone(x.Nodes)
	for i, n := range l {
		l[i].Guards, l[i].Reads = slices.Clone(n.Guards), slices.Clone(n.Reads)
	}
	return api.Trace{Nodes: l}
}

// state tells all that a memo answers, and leaves it as it is: what brings cells up to date is asked of a clone.
func state(m *incr.Memo) string {
	var s strings.Builder
	fmt.Fprint(&s, "dirty ", slices.Collect(m.Dirty()))
	copied := m.Clone()
	for cell := range uint32(api.MaxCells + 1) {
		x, n, e := copied.Get(cell)
		node, ok := m.Last(cell)
		fmt.Fprintf(&s, "\n%d: %v %d %d, %+v %t, %d", cell, x, n, int(e), node, ok, m.Evals(cell))
		if e != api.OK {
			break
		}
	}
	return s.String()
}

// apart asks whether no two lists of a thing share any memory, spare room too.
func apart(t *testing.T, thing any) {
	t.Helper()
	type span struct{ from, to uintptr }
	var l []span
	eachList(reflect.ValueOf(thing).Elem(), func(v reflect.Value) {
		size := uintptr(v.Cap()) * v.Type().Elem().Size()
		for _, x := range l {
			if v.Pointer() < x.to && x.from < v.Pointer()+size {
				t.Errorf("two lists share memory: %+v", thing)
			}
		}
		l = append(l, span{v.Pointer(), v.Pointer() + size})
	})
}

// eachList calls do with every list of a value, those in its spare room aside, the inner ones first.
func eachList(v reflect.Value, do func(reflect.Value)) {
	switch v.Kind() {
	case reflect.Struct:
		for i := range v.NumField() {
			eachList(v.Field(i), do)
		}
	case reflect.Slice:
		for i := range v.Len() {
			eachList(v.Index(i), do)
		}
		do(v)
	}
}

// junk: a value of a type that no test puts there.
func junk(t reflect.Type) reflect.Value {
	v := reflect.New(t).Elem()
	switch t.Kind() {
	case reflect.Struct:
		for i := range t.NumField() {
			v.Field(i).Set(junk(t.Field(i).Type))
		}
	case reflect.Int, reflect.Int64:
		v.SetInt(-987654321)
	case reflect.Uint32:
		v.SetUint(987654321)
	case reflect.String:
		v.SetString("junk")
	case reflect.Bool:
		v.SetBool(true)
	}
	return v
}

// roomy gives every list of a thing spare room with something in it.
func roomy(thing any) {
	eachList(reflect.ValueOf(thing).Elem(), func(l reflect.Value) {
		n := l.Len()
		l.Set(reflect.Append(l, junk(l.Type().Elem()), junk(l.Type().Elem())).Slice(0, n))
	})
}

// laidOpen tells a thing with all spare room.
func laidOpen(thing any) string {
	v := reflect.ValueOf(thing).Elem()
	s := fmt.Sprintf("%+v", v.Interface())
	eachList(v, func(l reflect.Value) { s += fmt.Sprintf("%+v", l.Slice(0, l.Cap()).Interface()) })
	return s
}

// scribble writes junk into all that the lists of a thing have, spare room too.
func scribble(thing any) {
	eachList(reflect.ValueOf(thing).Elem(), func(l reflect.Value) {
		all := l.Slice(0, l.Cap())
		for i := range all.Len() {
			all.Index(i).Set(junk(l.Type().Elem()))
		}
	})
}
