package branch_test

import (
	"bytes"
	"encoding/hex"
	"fmt"
	"maps"
	"math"
	"slices"
	"strings"
	"testing"

	"levy/api"
	"levy/branch"
	"levy/trie"
)

// held: what a map holds.
type held map[uint32]api.Value

func cents(n int64) api.Value { return api.Value{Kind: api.Cents, Num: n} }

// at1: what a map holds that has n at the key 1 alone.
func at1(n int64) held { return held{1: cents(n)} }

// made: a map that holds just that.
func (c held) made() *trie.Map {
	m := trie.Empty()
	for _, id := range slices.Sorted(maps.Keys(c)) {
		m = m.Put(id, c[id])
	}
	return m
}

// opened: what a map holds, as Get and All both tell it.
func opened(t *testing.T, m *trie.Map) held {
	t.Helper()
	if m == nil {
		t.Fatal("a map that is answered is nil")
	}
	c := held(maps.Collect(m.All()))
	for id, v := range c {
		if got, ok := m.Get(id); !ok || got != v || m.Len() != len(c) {
			t.Fatalf("the map holds %v, %t at %d, want %v; Len %d", got, ok, id, v, m.Len())
		}
	}
	return c
}

// edges: keys at both ends, at the bounds of written groups, and such as hang on one node or on none together.
func edges() []uint32 {
	return []uint32{0, 1, 2, 15, 16, 127, 128, 300, 1<<14 - 1, 1 << 14, 1<<21 - 1, 1 << 21, 1<<28 - 1, 1 << 28, 0x50000000, math.MaxUint32}
}

// odd: values, such too as the layers above never store.
func odd() []api.Value {
	return []api.Value{{}, {Kind: api.Blank, Num: 7}, cents(1), cents(-1), cents(63), cents(64), cents(-64), cents(-65), {Kind: api.Count, Num: 1}, {Kind: -3}, {Kind: math.MaxInt, Num: math.MinInt64}, {Kind: math.MinInt, Num: math.MaxInt64}, {Kind: 64, Num: 1 << 62}}
}

// raw: the bytes of some texts of hexadecimal digits, one behind the other.
func raw(l ...string) []byte {
	b, err := hex.DecodeString(strings.ReplaceAll(strings.Join(l, ""), " ", ""))
	if err != nil {
		panic(err)
	}
	return b
}

func errnoIs(t *testing.T, what string, got, want api.Errno) {
	t.Helper()
	if got != want {
		t.Fatalf("%s: error %d, want %d", what, int(got), int(want))
	}
}

// past: what a book tells of one branch's history: all versions from the oldest on, and how many are below the present one.
type past struct {
	all   []held
	below int
}

// walked goes through the current branch's history by Undo and Redo, and leaves it as it was.
func walked(t *testing.T, what string, b *branch.Book) past {
	t.Helper()
	undo, redo := b.Depth()
	for n := range undo {
		errnoIs(t, what+": Undo", b.Undo(), api.OK)
		if u, r := b.Depth(); u != undo-n-1 || r != redo+n+1 {
			t.Fatalf("%s: Depth behind Undo: %d, %d", what, u, r)
		}
	}
	errnoIs(t, what+": Undo of none", b.Undo(), api.ErrHistUndo)
	all := []held{opened(t, b.Inputs())}
	for range undo + redo {
		errnoIs(t, what+": Redo", b.Redo(), api.OK)
		all = append(all, opened(t, b.Inputs()))
	}
	errnoIs(t, what+": Redo of none", b.Redo(), api.ErrHistRedo)
	for range redo {
		errnoIs(t, what+": Undo", b.Undo(), api.OK)
	}
	return past{all, undo}
}

// looksAs holds all that a book tells against the model; it leaves the book as it was.
func looksAs(t *testing.T, what string, b *branch.Book, m model) {
	t.Helper()
	if got := b.Names(); !slices.Equal(got, m.names()) {
		t.Fatalf("%s: Names %q, want %q", what, got, m.names())
	}
	if got := b.Current(); got != m.current {
		t.Fatalf("%s: Current %q, want %q", what, got, m.current)
	}
	for _, name := range m.names() {
		want := m.lines[name]
		now, ok := b.Of(name)
		base, is := b.Base(name)
		if !ok || !is || !maps.Equal(opened(t, now), want.now()) || !maps.Equal(opened(t, base), want.base) {
			t.Fatalf("%s: of %s: %v, %t, base %v, %t; want %v, base %v", what, name, opened(t, now), ok, opened(t, base), is, want.now(), want.base)
		}
		errnoIs(t, what+": Switch", b.Switch(name), api.OK)
		if got := opened(t, b.Inputs()); b.Current() != name || !maps.Equal(got, want.now()) {
			t.Fatalf("%s: %s is current: %v, want %v", what, b.Current(), got, want.now())
		}
		got := walked(t, what, b)
		if got.below != want.below || !slices.EqualFunc(got.all, want.all, maps.Equal[held, held]) {
			t.Fatalf("%s: history of %s: %v, want %v", what, name, got, want)
		}
	}
	errnoIs(t, what+": Switch back", b.Switch(m.current), api.OK)
}

// same holds what a book tells against what it told ahead.
func same(t *testing.T, what string, b *branch.Book, ahead []byte) {
	t.Helper()
	if got := b.Put(); !bytes.Equal(got, ahead) {
		t.Fatalf("%s: the book is % X, was % X", what, got, ahead)
	}
}

// pair: a book, and what the chapter says of it.
type pair struct {
	book  *branch.Book
	model model
}

func newPair(c held) *pair { return &pair{branch.New(c.made()), newModel(c)} }

func (p *pair) clone() *pair { return &pair{p.book.Clone(), p.model.clone()} }

// The calls, on both; each tells the error, which both give alike. With an error the book's bytes stay.

func (p *pair) both(t *testing.T, what string, book func() api.Errno, model func() api.Errno) api.Errno {
	t.Helper()
	ahead := p.book.Put()
	want := model()
	got := book()
	errnoIs(t, what, got, want)
	if got != api.OK {
		same(t, what, p.book, ahead)
	}
	return got
}

func (p *pair) fork(t *testing.T, name string) api.Errno {
	t.Helper()
	return p.both(t, fmt.Sprintf("Fork(%q)", name), func() api.Errno { return p.book.Fork(name) }, func() api.Errno { return p.model.fork(name) })
}

func (p *pair) swap(t *testing.T, name string) api.Errno {
	t.Helper()
	return p.both(t, fmt.Sprintf("Switch(%q)", name), func() api.Errno { return p.book.Switch(name) }, func() api.Errno { return p.model.swap(name) })
}

func (p *pair) remove(t *testing.T, name string) api.Errno {
	t.Helper()
	return p.both(t, fmt.Sprintf("Delete(%q)", name), func() api.Errno { return p.book.Delete(name) }, func() api.Errno { return p.model.remove(name) })
}

func (p *pair) change(t *testing.T, c held) api.Errno {
	t.Helper()
	return p.changeTo(t, c, c.made())
}

// changeTo is change to a map that holds that, however it was made.
func (p *pair) changeTo(t *testing.T, c held, m *trie.Map) api.Errno {
	t.Helper()
	return p.both(t, "Change", func() api.Errno { return p.book.Change(m) }, func() api.Errno { return p.model.change(c) })
}

func (p *pair) undo(t *testing.T) api.Errno {
	t.Helper()
	return p.both(t, "Undo", p.book.Undo, p.model.undo)
}

func (p *pair) redo(t *testing.T) api.Errno {
	t.Helper()
	return p.both(t, "Redo", p.book.Redo, p.model.redo)
}

func (p *pair) forget(t *testing.T, n int) api.Errno {
	t.Helper()
	return p.both(t, fmt.Sprintf("Forget(%d)", n), func() api.Errno { return p.book.Forget(n) }, func() api.Errno { return p.model.forget(n) })
}

func (p *pair) alike(t *testing.T, what string) {
	t.Helper()
	looksAs(t, what, p.book, p.model)
}

// must does calls that are to be OK.
func must(t *testing.T, l ...api.Errno) {
	t.Helper()
	for at, e := range l {
		if e != api.OK {
			t.Fatalf("call %d: error %d", at, int(e))
		}
	}
}

// rich: a book with branches that have something of everything: versions undone, forgotten, the same as another, keys gone.
func rich(t *testing.T) *pair {
	t.Helper()
	p := newPair(held{3: cents(1), 300: cents(-5)})
	must(t, p.change(t, held{3: cents(2), math.MaxUint32: {Kind: -3, Num: 7}}), p.change(t, held{}), p.change(t, held{}), p.undo(t))
	must(t, p.fork(t, "a"), p.undo(t), p.fork(t, "zz9"), p.swap(t, "zz9"))
	must(t, p.change(t, held{5: {}}), p.change(t, held{5: {}, 6: cents(1)}), p.forget(t, 1), p.undo(t))
	must(t, p.fork(t, "b1"), p.swap(t, "b1"), p.change(t, at1(9)), p.forget(t, 1))
	must(t, p.fork(t, "longname"), p.swap(t, "main"), p.fork(t, "n"), p.swap(t, "b1"))
	p.alike(t, "rich")
	return p
}

// tally counts what came about, so that chance leaves nothing out.
type tally map[string]int

func (c tally) atLeast(t *testing.T, n int, what ...string) {
	t.Helper()
	for _, x := range what {
		if c[x] < n {
			t.Errorf("%s: %d times of %v", x, c[x], fmt.Sprint(c))
		}
	}
}
