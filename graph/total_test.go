package graph_test

import (
	"fmt"
	"math"
	"math/rand"
	"reflect"
	"slices"
	"testing"

	"levy/api"
	"levy/graph"
	"levy/types"
)

// The chapter's words on memory and on all arguments, and P8.1's errors.

// bends: packs that were well formed and have one fault or more, one for each error that Check tells.
func bends() []struct {
	what  string
	does  func(p *api.Pack)
	errno api.Errno
} {
	return []struct {
		what  string
		does  func(p *api.Pack)
		errno api.Errno
	}{
		{"nothing at all", func(p *api.Pack) { *p = api.Pack{} }, api.ErrTypeSize},
		{"no lines", func(p *api.Pack) { p.Lines = nil }, api.ErrTypeSize},
		{"a year that may not be", func(p *api.Pack) { p.Year = 1 }, api.ErrTypeSize},
		{"too many lines", func(p *api.Pack) { p.Lines = make([]api.Line, 49) }, api.ErrTypeSize},
		{"a name that may not be", func(p *api.Pack) { p.Lines[0].Name = "A" }, api.ErrTypeName},
		{"a name twice", func(p *api.Pack) { p.Lines[0].Name = "kid" }, api.ErrTypeTwice},
		{"a table's bands", func(p *api.Pack) { p.Tables = []api.Table{{Name: "t", Bands: []api.Band{{From: 1}}}} }, api.ErrTypeTable},
		{"no rows", func(p *api.Pack) { p.Groups[0].Rows = 0 }, api.ErrTypeGroup},
		{"too many rows", func(p *api.Pack) { p.Groups[0].Rows = 9 }, api.ErrTypeGroup},
		{"rows beyond all", func(p *api.Pack) { p.Groups[0].Rows = math.MaxInt }, api.ErrTypeGroup},
		{"a line of no such group", func(p *api.Pack) { p.Lines[3].Group = 1 }, api.ErrTypeGroup},
		{"a line of a group below none", func(p *api.Pack) { p.Lines[3].Group = -2 }, api.ErrTypeGroup},
		{"a computed line without a clause", func(p *api.Pack) { p.Lines[3].Clauses = nil }, api.ErrTypeLine},
		{"an input with a clause", func(p *api.Pack) { p.Lines[3].Input = true }, api.ErrTypeLine},
		{"a guarded default", func(p *api.Pack) { p.Lines[3].Clauses[0].Guarded = true }, api.ErrTypeClause},
		{"a default's guard", func(p *api.Pack) { p.Lines[3].Clauses[0].Guard = line(3) }, api.ErrTypeClause},
		{"no operator", func(p *api.Pack) { p.Lines[3].Clauses[0].Body.Op = 99 }, api.ErrTypeOp},
		{"no such line", func(p *api.Pack) { p.Lines[3].Clauses[0].Body = line(4) }, api.ErrTypeRef},
		{"a line below all", func(p *api.Pack) { p.Lines[3].Clauses[0].Body.Num = math.MinInt64 }, api.ErrTypeRef},
		{"no such group", func(p *api.Pack) { p.Lines[3].Clauses[0].Body = of(api.OpUsed, 1) }, api.ErrTypeRef},
		{"another kind", func(p *api.Pack) { p.Lines[3].Clauses[0].Body = sum(1) }, api.ErrTypeKind},
	}
}

func TestP8_1Errors(t *testing.T) {
	for _, b := range bends() {
		refused(t, b.what, turned(b.does), b.errno)
		refused(t, b.what+", and a cycle", turned(func(p *api.Pack) {
			p.Lines[2].Clauses[0].Body = line(2)
			b.does(p)
		}), b.errno)
	}
	refused(t, "a fault behind a cycle", turned(func(p *api.Pack) {
		p.Lines[2].Clauses[0].Body = line(2)
		p.Checks = []api.Check{{Name: "c", Group: -1, When: cents(1), Text: "so"}}
	}), api.ErrTypeKind)
}

// strange: numbers that may stand anywhere.
func strange(r *rand.Rand) int {
	return pick(r, math.MinInt, math.MinInt32, -2, -1, 0, 0, 1, 1, 2, 3, 5, 6, 8, 9, 42, math.MaxInt32, math.MaxInt)
}

// bendSome changes one number of a pack, which then may or may not have a fault.
func bendSome(r *rand.Rand, p *api.Pack) {
	l := &p.Lines[r.Intn(len(p.Lines))]
	group := &api.Group{}
	if len(p.Groups) > 0 {
		group = &p.Groups[r.Intn(len(p.Groups))]
	}
	e := &api.Expr{}
	if len(l.Clauses) > 0 {
		e = &l.Clauses[r.Intn(len(l.Clauses))].Body
	}
	for len(e.Args) > 0 && r.Intn(3) > 0 {
		e = &e.Args[r.Intn(len(e.Args))]
	}
	switch r.Intn(7) {
	case 0:
		group.Rows = strange(r)
	case 1:
		l.Group = strange(r)
	case 2:
		l.Type = strange(r)
	case 3:
		l.Input = !l.Input
	case 4:
		e.Op = pick(r, strange(r), r.Intn(44))
	default:
		e.Num = int64(strange(r))
	}
}

func TestP8_1AnyPackEnds(t *testing.T) {
	r := rand.New(rand.NewSource(81))
	counts := map[api.Errno]int{}
	for i := range 1500 {
		p := madePack(r, 12, shapes[i%len(shapes)])
		for range 1 + r.Intn(2) {
			bendSome(r, &p)
		}
		_, errno := types.Check(p)
		counts[errno]++
		if errno != api.OK {
			refused(t, fmt.Sprintf("%+v", p), p, errno)
		} else {
			asModel(t, p)
		}
	}
	if len(counts) < 6 || counts[api.OK] < 100 {
		t.Errorf("too few of a kind: %v", counts)
	}
}

func TestP8_1StrangeLists(t *testing.T) {
	loop := make([]api.Expr, 2)
	loop[0], loop[1] = op(api.OpAdd, loop...), op(api.OpAdd, loop...)
	deep := cents(1)
	for range 1 << 16 {
		deep = op(api.OpNeg, deep)
	}
	shared := line(0)
	for range 60 {
		shared = op(api.OpAdd, shared, shared, shared, shared, shared, shared)
	}
	for _, e := range []api.Expr{loop[0], deep, shared} {
		refused(t, "a strange body", turned(func(p *api.Pack) { p.Lines[3].Clauses[0].Body = e }), api.ErrTypeSize)
		refused(t, "a strange check", turned(func(p *api.Pack) { p.Checks = []api.Check{{Name: "c", Group: -1, When: e, Text: "so"}} }), api.ErrTypeSize)
		refused(t, "a strange guard of a default", turned(func(p *api.Pack) { p.Lines[3].Clauses[0].Guard = e }), api.ErrTypeClause)
	}
	refused(t, "a wide body", turned(func(p *api.Pack) {
		p.Lines[3].Clauses[0].Body = op(api.OpAdd, slices.Repeat([]api.Expr{line(0)}, 1<<16)...)
	}), api.ErrTypeOp)
	twice := []api.Expr{line(0), sum(2)}
	g := made(t, turned(func(p *api.Pack) {
		p.Lines[3].Clauses[0].Body = op(api.OpAdd, op(api.OpAdd, twice...), op(api.OpSub, twice...))
	}))
	gives(t, "a list that stands twice", g.Reads(5), 0, 3, 4, 6, 7)
}

func TestP8_1NilAndEmptyAreTheSame(t *testing.T) {
	p := example()
	p.Options, p.Tables, p.Checks, p.Lines[0].Clauses, p.Lines[1].Clauses = []api.Options{}, []api.Table{}, []api.Check{}, []api.Clause{}, []api.Clause{}
	p.Lines[2].Clauses[0].Guard.Args = []api.Expr{}
	p.Lines[3].Clauses[0].Body.Args = []api.Expr{}
	if a, b := text(made(t, p)), text(made(t, example())); a != b {
		t.Errorf("with empty lists: %s, with nil ones: %s", a, b)
	}
}

// eachList calls do with every list of a value, those in its spare room aside, the inner ones first.
func eachList(v reflect.Value, do func(reflect.Value)) {
	switch v.Kind() {
	case reflect.Struct:
		for i := range v.NumField() {
			eachList(v.Field(i), do)
		}
	case reflect.Slice:
		for i := range v.Len() {
			eachList(v.Index(i), do)
		}
		do(v)
	}
}

// junk: a value of a type that no test puts there.
func junk(t reflect.Type) reflect.Value {
	v := reflect.New(t).Elem()
	switch t.Kind() {
	case reflect.Struct:
		for i := range t.NumField() {
			v.Field(i).Set(junk(t.Field(i).Type))
		}
	case reflect.Int, reflect.Int64:
		v.SetInt(-987654321)
	case reflect.String:
		v.SetString("junk")
	case reflect.Bool:
		v.SetBool(true)
	}
	return v
}

// roomy gives every list of a pack spare room with something in it.
func roomy(p *api.Pack) {
	eachList(reflect.ValueOf(p).Elem(), func(l reflect.Value) {
		n := l.Len()
		l.Set(reflect.Append(l, junk(l.Type().Elem()), junk(l.Type().Elem())).Slice(0, n))
	})
}

// laidOpen tells a pack with all spare room.
func laidOpen(p api.Pack) string {
	s := fmt.Sprintf("%+v", p)
	eachList(reflect.ValueOf(&p).Elem(), func(l reflect.Value) { s += fmt.Sprintf("%+v", l.Slice(0, l.Cap()).Interface()) })
	return s
}

// scribble writes junk into all that the lists of a pack have, spare room too.
func scribble(p *api.Pack) {
	eachList(reflect.ValueOf(p).Elem(), func(l reflect.Value) {
		all := l.Slice(0, l.Cap())
		for i := range all.Len() {
			all.Index(i).Set(junk(l.Type().Elem()))
		}
	})
}

func TestP8_1ThePackStaysAsItIs(t *testing.T) {
	r := rand.New(rand.NewSource(811))
	for i := range 200 {
		p := madePack(r, 12, shapes[i%len(shapes)])
		roomy(&p)
		was := laidOpen(p)
		g, w, _ := graph.New(p)
		if laidOpen(p) != was {
			t.Fatalf("New changed the pack: %s", was)
		}
		wasW := slices.Clone(w)
		wasText := ""
		if g != nil {
			wasText = text(g)
		}
		scribble(&p)
		if !slices.Equal(w, wasW) || g != nil && text(g) != wasText {
			t.Fatal("what New answered changed with the pack")
		}
	}
}

func TestP8_7TheCellsStayAsTheyAre(t *testing.T) {
	g := made(t, example())
	for what, call := range map[string]func(...int) []int{
		"Hit":  func(l ...int) []int { return hear(g.Hit(l...), l) },
		"Need": func(l ...int) []int { return hear(g.Need(l...), l) },
	} {
		room := []int{1, 99, 7, -5, -6}
		got := call(room[:3]...)
		if !slices.Equal(room, []int{0, 0, 0, -5, -6}) {
			t.Errorf("%s wrote into the list that it was handed: %v", what, room)
		}
		want := map[string][]int{"Hit": {1, 7, 3, 4, 5}, "Need": {1, 7}}[what]
		if !slices.Equal(got, want) {
			t.Errorf("%s kept the list that it was handed: %v, want %v", what, got, want)
		}
	}
	l := []int{4, 3}
	for range g.Need(l...) {
		if !slices.Equal(l, []int{4, 3}) {
			t.Errorf("Need changed its cells: %v", l)
		}
	}
}

// hear goes through an iterator behind the list that it was made of having been changed.
func hear(seq func(func(int) bool), l []int) []int {
	for i := range l {
		l[i] = 0
	}
	return slices.Collect(seq)
}

func TestP8_6OrderIsNewMemory(t *testing.T) {
	for _, p := range []api.Pack{example(), full(), plain(nil)} {
		g := made(t, p)
		was, a, b := text(g), g.Order(), g.Order()
		want := slices.Clone(b)
		a = a[:cap(a)]
		for i := range a {
			a[i] = -9
		}
		if !slices.Equal(b, want) || text(g) != was {
			t.Error("what Order told is the graph's own")
		}
	}
}

func TestP8_9TheWitnessIsNewMemory(t *testing.T) {
	p := chain(api.MaxLines, 0)
	_, a, _ := graph.New(p)
	_, b, _ := graph.New(p)
	want := slices.Clone(b)
	a = a[:cap(a)]
	for i := range a {
		a[i] = -9
	}
	if !slices.Equal(b, want) {
		t.Error("two witnesses share memory")
	}
	cycles(t, "again", p, want...)
}

// Two graphs have nothing in common.
func TestP8_1GraphsApart(t *testing.T) {
	a := made(t, example())
	was := text(a)
	b := made(t, full())
	wasB := text(b)
	graph.New(chain(3, 0))
	graph.New(api.Pack{})
	if text(a) != was || text(b) != wasB || text(made(t, example())) != was {
		t.Error("another graph changed one")
	}
}
