package branch_test

import (
	"bytes"
	"fmt"
	"maps"
	"math"
	"math/rand"
	"slices"
	"testing"

	"levy/api"
	"levy/branch"
	"levy/trie"
)

// All promises by scripts that chance makes (the same each time), held against the model and against each other.

// someName: a name that a branch may have or not, or no name.
func someName(r *rand.Rand) string {
	l := []string{"main", "a", "a1", "b", "m", "main1", "n", "zzzzzzzz", "", "A", "ninebytes"}
	return l[r.Intn(len(l))]
}

// nameOf: mostly one of the book's own names.
func (p *pair) nameOf(r *rand.Rand) string {
	l := append(p.model.names(), someName(r))
	return l[r.Intn(len(l))]
}

// next: a map made of another one by chance, or of none, and what it holds.
func next(r *rand.Rand, from held, m *trie.Map) (held, *trie.Map) {
	if r.Intn(12) == 0 {
		return held{}, nil
	}
	if r.Intn(6) == 0 {
		from, m = held{}, trie.Empty()
	}
	c := maps.Clone(from)
	for range r.Intn(4) {
		id := edges()[r.Intn(len(edges()))]
		if r.Intn(3) == 0 {
			delete(c, id)
			m = m.Drop(id)
			continue
		}
		c[id] = odd()[r.Intn(len(odd()))]
		m = m.Put(id, c[id])
	}
	return c, m
}

// act does one thing to both, by chance; change: how often of ten a Change.
func (p *pair) act(t *testing.T, r *rand.Rand, change int, counts tally) string {
	t.Helper()
	var e api.Errno
	var what string
	switch n := r.Intn(14); {
	case n < change:
		c, m := next(r, p.model.lines[p.model.current].now(), p.book.Inputs())
		what, e = "Change", p.changeTo(t, c, m)
	case n == 10:
		what, e = "Fork", p.fork(t, someName(r))
	case n == 11:
		what, e = "Delete", p.remove(t, p.nameOf(r))
	case n == 12:
		what, e = "Switch", p.swap(t, p.nameOf(r))
	case n == 13 && r.Intn(3) == 0:
		below := p.model.lines[p.model.current].below
		what, e = "Forget", p.forget(t, []int{-1, 0, 1, 2, r.Intn(34), below, below + 1, math.MaxInt, math.MinInt}[r.Intn(9)])
	case n%2 == 0:
		what, e = "Undo", p.undo(t)
	default:
		what, e = "Redo", p.redo(t)
	}
	counts[fmt.Sprint(what, " ", int(e))]++
	return what
}

// scripts runs scripts over books, clones of them, and books read back; look sees each behind each step.
func scripts(t *testing.T, seed int64, count int, look func(p *pair, what string)) {
	t.Helper()
	r := rand.New(rand.NewSource(seed))
	counts := tally{}
	for range count {
		c, m := next(r, held{}, trie.Empty())
		pairs := []*pair{{branch.New(m), newModel(c)}}
		for _, name := range []string{"a", "f", "main0", "x", "z9"}[:r.Intn(6)] {
			must(t, pairs[0].fork(t, name))
		}
		change := 3 + r.Intn(7)
		for range 200 {
			i := r.Intn(len(pairs))
			if len(pairs) < 3 && r.Intn(15) == 0 {
				pairs = append(pairs, pairs[i].clone())
				counts["Clone"]++
			}
			if len(pairs) < 3 && r.Intn(15) == 0 {
				pairs = append(pairs, pairs[i].readBack(t))
				counts["Get"]++
			}
			look(pairs[i], pairs[i].act(t, r, change, counts))
		}
		for _, p := range pairs {
			p.alike(t, "at the end")
		}
		if t.Failed() {
			return
		}
	}
	counts.atLeast(t, 10, "Change 0", "Change 110", "Undo 0", "Undo 111", "Redo 0", "Redo 112", "Forget 0", "Forget 113", "Clone", "Get",
		"Fork 0", "Fork 120", "Fork 121", "Fork 123", "Switch 0", "Switch 122", "Delete 0", "Delete 122", "Delete 124", "Delete 125")
}

// readBack: the book that is read of a book's bytes.
func (p *pair) readBack(t *testing.T) *pair {
	t.Helper()
	b, e := branch.Get(p.book.Put())
	errnoIs(t, "Get of Put", e, api.OK)
	return &pair{b, p.model.clone()}
}

func TestP12_1AsTheModel(t *testing.T) {
	scripts(t, 121, 60, func(p *pair, what string) {
		p.alike(t, what)
		p.clone().alike(t, "a clone behind "+what)
	})
}

func TestP12_11BytesAsTheModel(t *testing.T) {
	scripts(t, 122, 150, func(p *pair, what string) {
		if got, want := p.book.Put(), p.model.bytes(); !bytes.Equal(got, want) {
			t.Fatalf("behind %s: Put % X, want % X", what, got, want)
		}
	})
}

// told: all that another branch shows.
type told struct {
	of, base held
	past     past
}

// tells: what a book tells of a branch, seen in a clone.
func tells(t *testing.T, b *branch.Book, name string) told {
	t.Helper()
	b = b.Clone()
	of, ok := b.Of(name)
	base, is := b.Base(name)
	if !ok || !is {
		t.Fatalf("no branch %s", name)
	}
	errnoIs(t, "Switch", b.Switch(name), api.OK)
	if !maps.Equal(opened(t, b.Inputs()), opened(t, of)) {
		t.Fatalf("%s: Inputs %v, Of %v", name, opened(t, b.Inputs()), opened(t, of))
	}
	return told{opened(t, of), opened(t, base), walked(t, name, b)}
}

func (a told) is(b told) bool {
	return maps.Equal(a.of, b.of) && maps.Equal(a.base, b.base) && a.past.below == b.past.below && slices.EqualFunc(a.past.all, b.past.all, maps.Equal[held, held])
}

// Calls while one branch is current, and what the others tell ahead of them and behind them.
func TestP12_13Apart(t *testing.T) {
	r := rand.New(rand.NewSource(123))
	counts := tally{}
	for range 300 {
		p := newPair(at1(1))
		for range 60 {
			p.act(t, r, 5, tally{})
		}
		ahead := map[string]told{}
		for _, name := range p.book.Names() {
			if name != p.book.Current() {
				ahead[name] = tells(t, p.book, name)
			}
		}
		here := p.book.Current()
		for range 40 {
			if what := p.act(t, r, 5, tally{}); what == "Delete" {
				maps.DeleteFunc(ahead, func(name string, _ told) bool { return !p.model.has(name) })
			} else if p.model.current != here {
				break
			}
			for name, want := range ahead {
				if got := tells(t, p.book, name); !got.is(want) {
					t.Fatalf("%s tells %v, told %v", name, got, want)
				}
				counts["seen"]++
			}
		}
	}
	counts.atLeast(t, 1000, "seen")
}

func TestP12_14Back(t *testing.T) {
	counts := tally{}
	scripts(t, 124, 60, func(p *pair, what string) {
		b := p.book.Clone()
		now := opened(t, b.Inputs())
		if b.Change(at1(55).made()) == api.OK {
			counts["Change"]++
			errnoIs(t, "Undo behind a Change", b.Undo(), api.OK)
			if got := opened(t, b.Inputs()); !maps.Equal(got, now) {
				t.Fatalf("behind %s: Change and Undo: %v, want %v", what, got, now)
			}
			errnoIs(t, "Redo behind an Undo", b.Redo(), api.OK)
			if got := opened(t, b.Inputs()); !maps.Equal(got, at1(55)) {
				t.Fatalf("behind %s: Change, Undo and Redo: %v", what, got)
			}
		}
		b = p.book.Clone()
		if b.Undo() == api.OK {
			counts["Undo"]++
			errnoIs(t, "Redo behind an Undo", b.Redo(), api.OK)
			same(t, "Undo and Redo", b, p.book.Put())
			if got := opened(t, b.Inputs()); !maps.Equal(got, now) {
				t.Fatalf("behind %s: Undo and Redo: %v, want %v", what, got, now)
			}
		}
	})
	counts.atLeast(t, 100, "Change", "Undo")
}

// A book that is read back goes on as the one that was written does.
func TestP12_15ReadBack(t *testing.T) {
	scripts(t, 125, 60, func(p *pair, what string) {
		b := p.readBack(t)
		b.alike(t, "read back behind "+what)
		same(t, "read back", b.book, p.book.Put())
	})
}

// No two books that tell unlike have the same bytes, and such as tell alike have.
func TestP12_15BytesTellAll(t *testing.T) {
	seen := map[string]model{}
	twice := 0
	for seed := range int64(40) {
		scriptsOf(t, seed, func(p *pair) {
			b := string(p.book.Put())
			m, ok := seen[b]
			if !ok {
				seen[b] = p.model.clone()
				return
			}
			twice++
			p.alike(t, "a book of its own")
			looksAs(t, "the book of the same bytes", p.book, m)
		})
	}
	if twice < 100 || len(seen) < 1000 {
		t.Errorf("%d books, %d of them twice: the test has lost its weight", len(seen), twice)
	}
}

// scriptsOf: a script of few things, so that the same book comes about in many ways.
func scriptsOf(t *testing.T, seed int64, look func(p *pair)) {
	t.Helper()
	r := rand.New(rand.NewSource(seed))
	for range 20 {
		p := newPair(held{})
		for range 12 {
			switch r.Intn(8) {
			case 0, 1, 2:
				p.change(t, at1(int64(r.Intn(2))))
			case 3:
				p.undo(t)
			case 4:
				p.redo(t)
			case 5:
				p.forget(t, 1)
			case 6:
				p.fork(t, []string{"a", "z"}[r.Intn(2)])
			case 7:
				p.swap(t, []string{"a", "z", "main"}[r.Intn(3)])
			}
			look(p)
		}
	}
}

// asModel asks Get for what the model tells of some bytes, and tells whether they are taken.
func asModel(t *testing.T, what string, data []byte) bool {
	t.Helper()
	want, ok := modelGet(data)
	if ok {
		gets(t, what, data, want)
	} else {
		refused(t, what, data)
	}
	return ok
}

// spoil changes some bytes, takes some out, or lays some in.
func spoil(r *rand.Rand, b []byte) []byte {
	b = bytes.Clone(b)
	for range 1 + r.Intn(3) {
		i := r.Intn(len(b))
		few := []byte{0, 1, 2, 3, 5, 6, 7, 32, 33, 'a', 0x7f, 0x80, 0x81, 0xff}[r.Intn(14)]
		switch r.Intn(6) {
		case 0:
			b[i] = byte(r.Intn(256))
		case 1:
			b[i] = few
		case 2:
			b[i] += byte(r.Intn(5) - 2)
		case 3:
			b = slices.Delete(b, i, i+1)
		case 4:
			b = slices.Insert(b, i, few)
		case 5:
			b = slices.Delete(b, i, min(len(b), i+r.Intn(9)))
		}
		if len(b) == 0 {
			return b
		}
	}
	return b
}

func TestP12_12SpoiltByChance(t *testing.T) {
	r := rand.New(rand.NewSource(126))
	counts := tally{}
	for range 200 {
		p := newPair(at1(1))
		for range 1 + r.Intn(40) {
			p.act(t, r, 5, tally{})
		}
		data := p.book.Put()
		for range 300 {
			counts[fmt.Sprint(asModel(t, "spoilt", spoil(r, data)))]++
		}
	}
	counts.atLeast(t, 1000, "true", "false")
}

func TestP12_12AnyBytes(t *testing.T) {
	r := rand.New(rand.NewSource(127))
	counts := tally{}
	few := []byte{0, 0, 0, 0, 0, 0, 0, 0, 0, 0, 0, 0, 1, 1, 1, 2, 2, 3, 5, 6, 32, 33, 127, 128, 255}
	for range 300000 {
		b := make([]byte, r.Intn(16))
		for i := range b {
			b[i] = few[r.Intn(len(few))]
			if r.Intn(20) == 0 {
				b[i] = byte(r.Intn(256))
			}
		}
		if r.Intn(10) > 0 {
			b = append(raw(mainHex), b...)
		}
		counts[fmt.Sprint(asModel(t, "any bytes", b))]++
	}
	counts.atLeast(t, 300, "true", "false")
}

// Every single byte of a book, changed to every other one.
func TestP12_12EachByte(t *testing.T) {
	data := rich(t).model.bytes()
	for at := range data {
		for b := range 256 {
			other := bytes.Clone(data)
			other[at] = byte(b)
			asModel(t, fmt.Sprintf("byte %d", at), other)
		}
	}
}

// Books that answer alike have the same bytes, however their maps were made.
func TestP12_15MadeInOtherWays(t *testing.T) {
	m := trie.Empty().Put(9, cents(1)).Put(1, cents(2)).Put(9, cents(3)).Put(4, cents(4)).Drop(4)
	a := branch.New(m)
	b := branch.New(held{1: cents(2), 9: cents(3)}.made())
	must(t, a.Change(m.Put(1, cents(2)).Drop(9).Put(9, cents(3))), b.Change(b.Inputs()))
	must(t, a.Fork("x"), b.Fork("x"))
	same(t, "made in another way", a, b.Put())
}
