package audit_test

import (
	"math/rand"
	"slices"
	"sync"
	"testing"
	"unsafe"

	"levy/api"
	"levy/audit"
)

// The chapter's words on memory, and on all arguments.

// greatest: 256 cells: four groups of eight rows, 26 columns, and two checks of groups.
func greatest() api.Pack {
	p := api.Pack{Name: "great", Year: 2024}
	for i := range api.MaxGroups {
		p.Groups = append(p.Groups, api.Group{Name: named("g", i), Rows: api.MaxRows})
	}
	for i := range 26 {
		p.Lines = append(p.Lines, must(input(named("l", i), api.Cents, i%4)))
	}
	p.Checks = []api.Check{hard("one", 2, flag(0)), soft("two", 3, flag(0))}
	return p
}

func TestP14_6TheGreatestPack(t *testing.T) {
	p := greatest()
	m, a := modelOf(t, p), made(t, p)
	if m.graph.Cells() != api.MaxCells {
		t.Fatalf("%d cells", m.graph.Cells())
	}
	vals := make([]api.Value, api.MaxCells)
	for cell := range vals {
		if m.isFlag(cell) {
			vals[cell] = yes
		}
	}
	l := a.Run(reads(vals...).read)
	if len(l) != 26*8+2*8 {
		t.Errorf("%d findings", len(l))
	}
	asModel(t, a, m, vals, tally{})
	if last := l[len(l)-1]; last != ofCheck(api.RuleUnsure, false, 1, 7, blank, "two it is") {
		t.Errorf("the last one: %+v", last)
	}
}

// most: as many lines and checks of no group as may be.
func most() api.Pack {
	p := api.Pack{Name: "most", Year: 2024}
	for i := range api.MaxLines {
		p.Lines = append(p.Lines, must(input(named("l", i), api.Cents, -1)))
	}
	for i := range api.MaxChecks {
		p.Checks = append(p.Checks, []api.Check{hard(named("c", i), -1, flag(0)), soft(named("c", i), -1, flag(0))}[i%2])
	}
	return p
}

func TestP14_6MostLinesAndChecks(t *testing.T) {
	a, m := made(t, most()), modelOf(t, most())
	for _, v := range []api.Value{blank, over, yes, no} {
		vals := slices.Repeat([]api.Value{v}, api.MaxLines+api.MaxChecks)
		asModel(t, a, m, vals, tally{})
	}
}

func TestP14_1ThePackStaysAsItIs(t *testing.T) {
	eachMade(t, 14100, 40, 16, func(r *rand.Rand, p api.Pack, m *model) {
		roomy(&p)
		was := laidOpen(&p)
		a := made(t, p)
		vals := m.chance(r)
		asModel(t, a, m, vals, tally{})
		if laidOpen(&p) != was {
			t.Fatal("the pack is another one")
		}
	})
}

// The pack isn't kept: what becomes of it, its texts too, an auditor doesn't see.
func TestP14_1ThePackIsNotKept(t *testing.T) {
	var bytes [][]byte
	text := func(s string) string {
		b := []byte(s)
		bytes = append(bytes, b)
		return unsafe.String(&b[0], len(b))
	}
	p := several()
	for i := range p.Lines {
		p.Lines[i].Name = text(p.Lines[i].Name)
	}
	for i := range p.Checks {
		p.Checks[i].Text = text(p.Checks[i].Text)
	}
	roomy(&p)
	a, m := made(t, p), modelOf(t, several())
	for _, b := range bytes {
		for i := range b {
			b[i] = '#'
		}
	}
	scribble(&p)
	r := rand.New(rand.NewSource(1410))
	for range 50 {
		asModel(t, a, m, m.chance(r), tally{})
	}
}

func TestP14_1NilAndEmptyAreTheSame(t *testing.T) {
	p := several()
	p.Options, p.Tables, p.Lines[0].Clauses, p.Checks[0].When.Args = []api.Options{}, []api.Table{}, []api.Clause{}, []api.Expr{}
	vals := but(still(), at(1, blank), at(10, yes))
	if a, b := made(t, p).Run(reads(vals...).read), made(t, several()).Run(reads(vals...).read); !slices.Equal(a, b) || len(a) != 2 {
		t.Errorf("%+v, %+v", a, b)
	}
	bare := api.Pack{Name: "one", Year: 2024, Groups: []api.Group{}, Checks: []api.Check{}, Lines: []api.Line{input("a", api.Cents, -1)}}
	finds(t, "empty lists", made(t, bare), []api.Value{over}, ofLine(api.RuleFault, 0, 0, over, "a"))
}

// A list that was told is the caller's: what is written into it, or behind it, no other one shows.
func TestP14_6AnswersAreApart(t *testing.T) {
	a := made(t, several())
	r := reads(but(still(), at(0, over), at(1, blank), at(10, yes))...)
	want := a.Run(r.read)
	kept := slices.Clone(want)
	other := a.Run(r.read)
	scribble(&other)
	_ = append(other, api.Finding{}, api.Finding{})
	if !slices.Equal(want, kept) || !slices.Equal(a.Run(r.read), kept) || len(kept) != 3 {
		t.Errorf("%+v, %+v, want %+v", want, a.Run(r.read), kept)
	}
	if f, _ := a.First(r.read); f != kept[0] {
		t.Errorf("First: %+v", f)
	}
}

// read may ask the auditor itself: a call in the midst of another one touches neither.
func TestP14_6ReadThatAudits(t *testing.T) {
	a := made(t, several())
	vals := but(still(), at(0, over), at(3, blank), at(10, yes))
	calm := but(still(), at(7, no))
	outer := reads(vals...)
	read := func(cell uint32) api.Value {
		inner := reads(calm...)
		if l := a.Run(inner.read); len(l) != 0 {
			t.Errorf("the inner Run: %+v", l)
		}
		inner.wants(t, "the inner Run", 7, 8, 12, 15, 9, 16, 2, 3, 6, 0, 5, 10, 14)
		if f, ok := a.First(reads(vals...).read); !ok || f.Text != "b" || a.May(reads(vals...).read) {
			t.Errorf("the inner First: %+v, %t", f, ok)
		}
		return outer.read(cell)
	}
	if l := a.Run(read); len(l) != 3 || l[0].Text != "b" || l[1].Text != "free" || l[2].Text != "s it is" {
		t.Errorf("the outer Run: %+v", l)
	}
	outer.wants(t, "the outer Run", 7, 11, 8, 12, 15, 9, 16, 1, 2, 3, 6, 0, 4, 5, 10, 13, 14)
}

// read is called while a call lasts, and never behind it.
func TestP14_5ReadIsNotKept(t *testing.T) {
	a := made(t, several())
	over := false
	read := func(cell uint32) api.Value {
		if over {
			t.Errorf("cell %d is read behind the call", cell)
		}
		return still()[cell]
	}
	a.Run(read)
	a.First(read)
	a.May(read)
	over = true
	finds(t, "another read", a, still())
}

// An auditor never changes: it may be asked from several sides at once.
func TestP14_9ItNeverChanges(t *testing.T) {
	a, m := made(t, several()), modelOf(t, several())
	var all sync.WaitGroup
	for seed := range int64(8) {
		all.Go(func() {
			r := rand.New(rand.NewSource(seed))
			for range 50 {
				asModel(t, a, m, m.chance(r), tally{})
			}
		})
	}
	all.Wait()
}

// A read that panics: the panic is the caller's to catch, and the auditor goes on as ever.
func TestP14_9ReadThatPanics(t *testing.T) {
	a := made(t, several())
	for _, call := range []func(read func(uint32) api.Value){
		func(read func(uint32) api.Value) { a.Run(read) },
		func(read func(uint32) api.Value) { a.First(read) },
		func(read func(uint32) api.Value) { a.May(read) },
	} {
		func() {
			defer func() { _ = recover() }()
			call(func(cell uint32) api.Value { panic("no") })
		}()
	}
	finds(t, "behind it", a, but(still(), at(0, over)), ofLine(api.RuleFault, 0, 0, over, "free"))
}

// Of packs that aren't well formed: New answers.
func TestP14_1AnyPack(t *testing.T) {
	r := rand.New(rand.NewSource(14))
	for range 200 {
		p := several()
		for range 1 + r.Intn(3) {
			l, c, g := &p.Lines[r.Intn(5)], &p.Checks[r.Intn(5)], &p.Groups[r.Intn(2)]
			*pick(r, &l.Type, &l.Options, &l.Group, &c.Group, &g.Rows, &p.Year) = strange(r)
			*pick(r, &l.Name, &c.Name, &c.Text, &g.Name) = pick(r, "", "a", "free", "\xff", "z z")
		}
		if a, e := audit.New(p); (a == nil) != (e != api.OK) {
			t.Errorf("New: %v, error %d", a, e)
		}
	}
	p := several()
	scribble(&p)
	if a, e := audit.New(p); a != nil || e == api.OK {
		t.Errorf("New: %v, error %d", a, e)
	}
}
