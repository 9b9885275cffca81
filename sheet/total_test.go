package sheet_test

import (
	"maps"
	"math/rand"
	"slices"
	"strings"
	"sync"
	"testing"
	"unsafe"

	"levy/api"
	"levy/graph"
	"levy/sheet"
	"levy/trie"
)

// The chapter's words on memory, and on all arguments.

func TestP18_7ArgumentsStayAsTheyAre(t *testing.T) {
	eachMade(t, 18070, 60, 20, func(r *rand.Rand, p api.Pack, m *model) {
		c, vals := someInputs(r, m), someValues(r, m)
		in := mapOf(c)
		roomy(&p)
		roomy(&vals)
		wasPack, wasVals := laidOpen(&p), laidOpen(&vals)
		pages, e := sheet.Print(p, in, vals)
		if e != api.OK || laidOpen(&p) != wasPack || laidOpen(&vals) != wasVals || !maps.Equal(cellsOf(in), c) {
			t.Fatalf("Print: error %d", e)
		}
		roomy(&pages)
		wasPages := laidOpen(&pages)
		if _, _, _, e := sheet.Read(p, pages); e != api.OK || laidOpen(&p) != wasPack || laidOpen(&pages) != wasPages {
			t.Fatalf("Read: error %d", e)
		}
	})
}

// Answers are the caller's: what is written into one, or behind it, no other one shows.
func TestP18_7AnswersAreApart(t *testing.T) {
	p := greatest()
	in := allUsed(t, p)
	vals := worth(t, p, in)
	first, second := printed(t, p, in, vals), printed(t, p, in, vals)
	kept := slices.Clone(first)
	scribble(&second)
	_ = append(second, "x", "y")
	if !slices.Equal(first, kept) || !slices.Equal(printed(t, p, in, vals), kept) {
		t.Error("another answer is changed")
	}
	a, _, _, _ := sheet.Read(p, first)
	b, _, _, _ := sheet.Read(p, first)
	if same, _ := trie.Shared(a, b); same != 0 {
		t.Errorf("%d nodes are shared", same)
	}
}

// held: texts whose bytes can be changed behind a call.
type held [][]byte

func (h *held) text(s string) string {
	if s == "" {
		return s
	}
	b := []byte(s)
	*h = append(*h, b)
	return unsafe.String(&b[0], len(b))
}

func (h held) spoil() {
	for _, b := range h {
		for i := range b {
			b[i] = '#'
		}
	}
}

// Neither the pack's texts nor the pages are kept: what becomes of them behind a call no answer shows.
func TestP18_7TextsAreNotKept(t *testing.T) {
	want := printed(t, mixed(), full(), mixedValues())
	p, h := mixed(), &held{}
	p.Name = h.text(p.Name)
	for i := range p.Lines {
		p.Lines[i].Name = h.text(p.Lines[i].Name)
	}
	for i := range p.Groups {
		p.Groups[i].Name = h.text(p.Groups[i].Name)
	}
	for i := range p.Checks {
		p.Checks[i].Name = h.text(p.Checks[i].Name)
	}
	for i := range p.Options[0].Names {
		p.Options[0].Names[i] = h.text(p.Options[0].Names[i])
	}
	vals := mixedValues()
	pages := printed(t, p, full(), vals)
	h.spoil()
	scribble(&p)
	scribble(&vals)
	if !slices.Equal(pages, want) {
		t.Error("the pages are others")
	}
	h = &held{}
	l := []string{h.text(want[0])}
	m, _, _, _ := sheet.Read(mixed(), l)
	h.spoil()
	scribble(&l)
	if !maps.Equal(cellsOf(m), full()) {
		t.Errorf("%v", cellsOf(m))
	}
}

func TestP18_7NilAndEmptyAreTheSame(t *testing.T) {
	p := plain(1, 0)
	bare := p
	bare.Options, bare.Tables, bare.Groups, bare.Checks, bare.Lines[0].Clauses = []api.Options{}, []api.Table{}, []api.Group{}, []api.Check{}, []api.Clause{}
	if a, b := reckoned(t, p, cells{}), reckoned(t, bare, cells{}); !slices.Equal(a, b) {
		t.Errorf("%q, %q", a, b)
	}
	reads(t, "empty lists", bare, reckoned(t, p, cells{}), cells{})
}

// What is answered hangs on the arguments alone: maps are made anew in each call, and gone through in any order.
func TestP18_7TheSameAgain(t *testing.T) {
	want := printed(t, mixed(), full(), mixedValues())
	var all sync.WaitGroup
	for range 8 {
		all.Go(func() {
			for range 50 {
				if pages, e := sheet.Print(mixed(), mapOf(full()), mixedValues()); e != api.OK || !slices.Equal(pages, want) {
					t.Errorf("error %d, or other pages", e)
				}
				reads(t, "again", mixed(), want, full())
			}
		})
	}
	all.Wait()
}

// Texts that are no pages at all.
func TestP18_8AnyTexts(t *testing.T) {
	r := rand.New(rand.NewSource(1880))
	m := modelOf(t, mixed())
	seen := tally{}
	for range 3000 {
		var pages []string
		for range r.Intn(10) {
			b := make([]byte, pick(r, 0, 1, 73, 2919, 2920, 2920, 2921))
			for i := range b {
				b[i] = pick(r, []byte(" =-.\n>x0\xff")...)
				if i%73 == 72 {
					b[i] = '\n'
				} else if b[i] == '\n' && r.Intn(4) > 0 {
					b[i] = ' '
				}
			}
			pages = append(pages, string(b))
		}
		asModel(t, mixed(), m, pages, seen)
	}
	for range 300 { // in a right frame anything may stand
		page := headOf(mixed(), 1, 1) + "\n" + strings.Repeat("=", 72) + "\n"
		for range 37 {
			b := make([]byte, 72)
			for i := range b {
				if b[i] = byte(r.Intn(256)); b[i] == '\n' {
					b[i] = ' '
				}
			}
			page += string(b) + "\n"
		}
		asModel(t, mixed(), m, []string{page + footOf(page) + "\n"}, seen)
	}
	seen.atLeast(t, 100, "levy: error 180", "levy: error 182")
}

// Of packs that aren't well formed: every call ends, and none panics.
func TestP18_7AnyPack(t *testing.T) {
	r := rand.New(rand.NewSource(18))
	pages, seen := printed(t, mixed(), full(), mixedValues()), tally{}
	for range 3000 {
		p := mixed()
		for range 1 + r.Intn(3) {
			l, c, g := &p.Lines[r.Intn(8)], &p.Checks[r.Intn(5)], &p.Groups[r.Intn(3)]
			*pick(r, &l.Type, &l.Options, &l.Group, &c.Group, &g.Rows, &p.Year) = strange(r)
			*pick(r, &l.Name, &c.Name, &c.Text, &g.Name, &p.Name, &p.Options[0].Name, &p.Options[0].Names[1]) = pick(r, "", "a", "free", "\xff", "z z", strings.Repeat("x", 80), strings.Repeat("x", 4000))
		}
		if _, _, e := graph.New(p); e == api.OK {
			seen["well formed"]++
		} else {
			seen["not so"]++
		}
		sheet.Print(p, mapOf(full()), mixedValues())
		sheet.Print(p, nil, nil)
		sheet.Read(p, pages)
		sheet.Read(p, []string{headedSafely(p, pages[0])})
		sheet.Read(p, nil)
	}
	seen.atLeast(t, 20, "well formed", "not so")
	for _, p := range []api.Pack{{}, {Name: "x"}, {Lines: make([]api.Line, 100)}, {Groups: make([]api.Group, 100), Checks: make([]api.Check, 100)}} {
		sheet.Print(p, nil, nil)
		sheet.Print(p, mapOf(full()), make([]api.Value, 100))
		sheet.Read(p, pages)
		sheet.Read(p, nil)
	}
	p := mixed()
	scribble(&p)
	sheet.Print(p, mapOf(full()), mixedValues())
	sheet.Read(p, pages)
	cycle := example()
	cycle.Lines[3].Clauses[0].Body = line(3)
	sheet.Print(cycle, mapOf(nine()), worth(t, example(), nine()))
	sheet.Read(cycle, reckoned(t, example(), nine()))
}

// headedSafely: a page with the head of a pack, if that has room for it.
func headedSafely(p api.Pack, page string) string {
	if len(p.Name) > 30 {
		return page
	}
	return headed(p, page, 1, 1)
}
