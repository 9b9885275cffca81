package branch_test

import (
	"fmt"
	"maps"
	"math"
	"slices"
	"strings"
	"testing"

	"levy/api"
	"levy/branch"
	"levy/trie"
)

// forks tells what Fork of a name answers in a book of main alone.
func forks(t *testing.T, name string) api.Errno {
	t.Helper()
	return newPair(at1(1)).fork(t, name)
}

func TestP12_1Names(t *testing.T) {
	for _, name := range []string{"a", "z", "m", "a0", "z9", "a1b2c3d4", "abcdefgh", "zzzzzzzz", "a9999999", "mai", "main1", "mains", "maim", "no", "try"} {
		errnoIs(t, name, forks(t, name), api.OK)
	}
	errnoIs(t, "main", forks(t, "main"), api.ErrBranchTwice)
	for _, name := range []string{"", "Try", "ninebytes", "abcdefghi", "9a", "0", "a_b", "a-b", "a b", " a", "a ", "A", "aB", "a.b", "Main", "MAIN", "main ", "main\x00", "\x00", "ä", "aä", "ａ", "a١", "a\n", "\xff", "a\x80", strings.Repeat("a", 9), strings.Repeat("a", 1<<20)} {
		errnoIs(t, fmt.Sprintf("%.20q", name), forks(t, name), api.ErrBranchName)
	}
}

// Each byte at each place of names of each length.
func TestP12_1EachByte(t *testing.T) {
	for size := 1; size <= 8; size++ {
		for at := range size {
			for b := range 256 {
				l := []byte(strings.Repeat("k", size))
				l[at] = byte(b)
				want := api.ErrBranchName
				if b >= 'a' && b <= 'z' || at > 0 && b >= '0' && b <= '9' {
					want = api.OK
				}
				if got := branch.New(nil).Fork(string(l)); got != want {
					t.Fatalf("Fork(%q): error %d, want %d", l, int(got), int(want))
				}
			}
		}
	}
}

func TestP12_1Most(t *testing.T) {
	if api.MaxBranches != 6 {
		t.Fatal("MaxBranches")
	}
	p := newPair(at1(1))
	for n := 2; n <= 6; n++ {
		errnoIs(t, "Fork", p.fork(t, fmt.Sprint("b", n)), api.OK)
		p.alike(t, "a branch more")
	}
	errnoIs(t, "one too many", p.fork(t, "b7"), api.ErrBranchFull)
	errnoIs(t, "Delete", p.remove(t, "b3"), api.OK)
	errnoIs(t, "the sixth again", p.fork(t, "b7"), api.OK)
	errnoIs(t, "one too many again", p.fork(t, "b3"), api.ErrBranchFull)
	p.alike(t, "six")
}

func TestP12_2New(t *testing.T) {
	for _, id := range edges() {
		for _, v := range odd() {
			newPair(held{id: v}).alike(t, "one key")
		}
	}
	looksAs(t, "empty", branch.New(trie.Empty()), newModel(held{}))
	looksAs(t, "nil", branch.New(nil), newModel(held{}))
	p := newPair(at1(1))
	if u, r := p.book.Depth(); u != 0 || r != 0 {
		t.Errorf("Depth of a new book: %d, %d", u, r)
	}
}

func TestP12_2NewApart(t *testing.T) {
	m := at1(1).made()
	a, b := &pair{branch.New(m), newModel(at1(1))}, &pair{branch.New(m), newModel(at1(1))}
	must(t, a.change(t, at1(2)), a.fork(t, "x"), b.fork(t, "y"), b.swap(t, "y"))
	a.alike(t, "the first")
	b.alike(t, "the second")
	looksAs(t, "a later one", branch.New(m), newModel(at1(1)))
}

// What is made of an answered map is no change of the book.
func TestP12_2MapsAreNoHandles(t *testing.T) {
	m := at1(1).made()
	p := &pair{branch.New(m), newModel(at1(1))}
	must(t, p.fork(t, "x"))
	m.Put(1, cents(5)).Put(2, cents(5))
	p.book.Inputs().Put(1, cents(6)).Drop(1)
	of, _ := p.book.Of("x")
	base, _ := p.book.Base("x")
	of.Put(1, cents(7))
	base.Drop(1)
	p.alike(t, "maps made of its own")
}

func TestP12_3Fork(t *testing.T) {
	for versions := range 5 {
		for undone := range versions + 1 {
			p := newPair(at1(0))
			for n := range versions {
				must(t, p.change(t, at1(int64(n+1))))
			}
			for range undone {
				must(t, p.undo(t))
			}
			must(t, p.fork(t, "x"))
			p.alike(t, "behind the fork")
			if p.book.Current() != "main" {
				t.Errorf("current: %s", p.book.Current())
			}
			must(t, p.swap(t, "x"))
			errnoIs(t, "Undo behind the fork", p.undo(t), api.ErrHistUndo)
			errnoIs(t, "Redo behind the fork", p.redo(t), api.ErrHistRedo)
			errnoIs(t, "Forget behind the fork", p.forget(t, 1), api.ErrHistCount)
		}
	}
}

// A fork is one of the current branch, which need not be main.
func TestP12_3ForkOfAnother(t *testing.T) {
	p := newPair(at1(0))
	must(t, p.fork(t, "a"), p.swap(t, "a"), p.change(t, at1(1)), p.fork(t, "b"), p.change(t, at1(2)), p.swap(t, "b"), p.change(t, at1(3)), p.fork(t, "c"))
	p.alike(t, "forks of forks")
	base, _ := p.book.Base("c")
	if !maps.Equal(opened(t, base), at1(3)) {
		t.Errorf("base of c: %v", opened(t, base))
	}
	must(t, p.swap(t, "main"), p.remove(t, "b"), p.remove(t, "a"))
	p.alike(t, "what a branch was forked from is gone")
}

func TestP12_3ErrorsInOrder(t *testing.T) {
	p := rich(t)
	for _, name := range []string{"", "A", "9", "ninebytes", "n-"} {
		errnoIs(t, "no name, and full", p.fork(t, name), api.ErrBranchName)
	}
	for _, name := range p.model.names() {
		errnoIs(t, "twice, and full", p.fork(t, name), api.ErrBranchTwice)
	}
	errnoIs(t, "full", p.fork(t, "other"), api.ErrBranchFull)
	must(t, p.remove(t, "n"))
	for _, name := range p.model.names() {
		errnoIs(t, "twice", p.fork(t, name), api.ErrBranchTwice)
	}
	p.alike(t, "behind errors")
}

// A branch of a name that was there ahead has nothing of the old one.
func TestP12_3ForkAgain(t *testing.T) {
	p := newPair(at1(0))
	must(t, p.fork(t, "a"), p.swap(t, "a"), p.change(t, at1(1)), p.change(t, at1(2)), p.undo(t), p.swap(t, "main"), p.remove(t, "a"), p.change(t, at1(7)), p.fork(t, "a"))
	p.alike(t, "forked again")
}

func TestP12_4Switch(t *testing.T) {
	p := rich(t)
	for _, name := range append(p.model.names(), p.model.names()...) {
		must(t, p.swap(t, name))
		p.alike(t, "behind Switch")
		must(t, p.swap(t, name))
		p.alike(t, "behind Switch to the current one")
	}
	must(t, p.swap(t, "main"), p.remove(t, "n"))
	for _, name := range []string{"", "n", "Main", "mai", "main1", "ninebytes", "zz", "A", "no", strings.Repeat("x", 1000)} {
		errnoIs(t, "Switch to none", p.swap(t, name), api.ErrBranchNone)
		p.alike(t, "behind an error")
	}
}

func TestP12_5Delete(t *testing.T) {
	p := rich(t)
	errnoIs(t, "the current one", p.remove(t, "b1"), api.ErrBranchHere)
	errnoIs(t, "main, another one current", p.remove(t, "main"), api.ErrBranchMain)
	must(t, p.swap(t, "main"))
	errnoIs(t, "main, the current one", p.remove(t, "main"), api.ErrBranchMain)
	for _, name := range []string{"", "no", "Main", "A", "mai", "ninebytes", "zz"} {
		errnoIs(t, "none", p.remove(t, name), api.ErrBranchNone)
	}
	for _, name := range []string{"zz9", "a", "b1", "n", "longname"} {
		must(t, p.remove(t, name))
		p.alike(t, "behind Delete of "+name)
		errnoIs(t, "twice", p.remove(t, name), api.ErrBranchNone)
		errnoIs(t, "Switch to a branch that is gone", p.swap(t, name), api.ErrBranchNone)
	}
	errnoIs(t, "main alone", p.remove(t, "main"), api.ErrBranchMain)
	if got := p.book.Names(); !slices.Equal(got, []string{"main"}) {
		t.Errorf("Names: %q", got)
	}
}

func TestP12_6Names(t *testing.T) {
	for _, l := range [][]string{{"a", "a1", "aa", "b", "main", "z"}, {"m", "ma", "mai", "main", "main0", "maina"}, {"main", "n", "n0", "n00", "n1", "na"}, {"main"}} {
		for turn := range l {
			p := newPair(held{})
			for _, name := range append(slices.Clone(l[turn:]), l[:turn]...) {
				if name != "main" {
					must(t, p.fork(t, name))
				}
			}
			if got := p.book.Names(); !slices.Equal(got, l) {
				t.Errorf("Names %q, want %q", got, l)
			}
			p.alike(t, "names")
		}
	}
}

func TestP12_6NamesAreNewMemory(t *testing.T) {
	p := rich(t)
	ahead := p.book.Put()
	a, b := p.book.Names(), p.book.Names()
	want := slices.Clone(a)
	for i := range a {
		a[i] = "junk"
	}
	for i := range a[len(a):cap(a)] {
		a[:cap(a)][len(a)+i] = "more"
	}
	_ = append(a, "x", "y")
	if !slices.Equal(b, want) || !slices.Equal(p.book.Names(), want) {
		t.Errorf("Names %q, %q, want %q", b, p.book.Names(), want)
	}
	same(t, "behind scribbles", p.book, ahead)
	p.alike(t, "behind scribbles")
}

func TestP12_6OfAndBase(t *testing.T) {
	p := rich(t)
	must(t, p.remove(t, "n"))
	p.alike(t, "of all")
	for _, name := range []string{"", "n", "no", "Main", "mai", "main0", "ninebytes", "A", "\x00"} {
		m, ok := p.book.Of(name)
		x, is := p.book.Base(name)
		if m != nil || ok || x != nil || is {
			t.Errorf("of %q: %v, %t, %v, %t", name, m, ok, x, is)
		}
	}
}

func TestP12_7HistoryOfTheCurrentOne(t *testing.T) {
	p := newPair(at1(100))
	must(t, p.fork(t, "x"), p.swap(t, "x"))
	for n := range api.MaxHistory {
		must(t, p.change(t, at1(int64(n))))
	}
	errnoIs(t, "one change too many", p.change(t, at1(99)), api.ErrHistFull)
	for _, n := range []int{-1, 33, math.MinInt, math.MaxInt} {
		errnoIs(t, "Forget", p.forget(t, n), api.ErrHistCount)
	}
	errnoIs(t, "Redo of none", p.redo(t), api.ErrHistRedo)
	must(t, p.forget(t, 0), p.undo(t), p.undo(t), p.redo(t))
	p.alike(t, "behind undo and redo")
	must(t, p.change(t, at1(98)))
	errnoIs(t, "Redo behind Change", p.redo(t), api.ErrHistRedo)
	errnoIs(t, "full again", p.change(t, at1(99)), api.ErrHistFull)
	must(t, p.forget(t, 2), p.change(t, at1(97)), p.change(t, at1(96)))
	errnoIs(t, "full once more", p.change(t, at1(95)), api.ErrHistFull)
	p.alike(t, "behind Forget")
	must(t, p.swap(t, "main"))
	errnoIs(t, "Undo on main", p.undo(t), api.ErrHistUndo)
	must(t, p.change(t, at1(5)))
	p.alike(t, "main goes on")
}

func TestP12_7ChangeToTheSame(t *testing.T) {
	p := newPair(at1(1))
	must(t, p.changeTo(t, at1(1), p.book.Inputs()), p.change(t, at1(1)), p.changeTo(t, held{}, nil), p.changeTo(t, held{}, trie.Empty()))
	p.alike(t, "changes that change nothing, and nil")
	must(t, p.undo(t), p.undo(t), p.undo(t))
	p.alike(t, "undone")
}

// Bases stay, whatever becomes of the versions.
func TestP12_7BasesStay(t *testing.T) {
	p := newPair(at1(1))
	must(t, p.change(t, at1(2)), p.fork(t, "x"), p.forget(t, 1), p.swap(t, "x"), p.change(t, at1(3)), p.change(t, at1(4)), p.forget(t, 2))
	p.alike(t, "all forgotten")
	for name, want := range map[string]int64{"main": 1, "x": 2} {
		base, ok := p.book.Base(name)
		if !ok || !maps.Equal(opened(t, base), at1(want)) {
			t.Errorf("base of %s: %v", name, opened(t, base))
		}
	}
	errnoIs(t, "Undo of what is forgotten", p.undo(t), api.ErrHistUndo)
	must(t, p.fork(t, "y"))
	p.alike(t, "a fork behind Forget")
}

func TestP12_8Clone(t *testing.T) {
	p := rich(t)
	c := p.clone()
	c.alike(t, "a clone")
	same(t, "a clone", c.book, p.book.Put())
	deep := c.clone()
	must(t, c.swap(t, "main"), c.undo(t), c.change(t, at1(77)), c.remove(t, "n"), c.fork(t, "new"))
	p.alike(t, "behind changes of the clone")
	deep.alike(t, "the clone's clone")
	c.alike(t, "the clone")
	must(t, p.change(t, at1(66)), p.swap(t, "a"), p.remove(t, "b1"), p.forget(t, 0), p.change(t, at1(55)))
	c.alike(t, "behind changes of the first")
	deep.alike(t, "the clone's clone, behind all")
	p.alike(t, "the first")
}

// Each call alone, on either of the two, at each branch as the current one.
func TestP12_8EachCall(t *testing.T) {
	calls := []func(p *pair){
		func(p *pair) { p.fork(t, "fresh") }, func(p *pair) { p.swap(t, "main") }, func(p *pair) { p.swap(t, "a") },
		func(p *pair) { p.remove(t, "zz9") }, func(p *pair) { p.remove(t, "longname") }, func(p *pair) { p.change(t, at1(44)) },
		func(p *pair) { p.undo(t) }, func(p *pair) { p.redo(t) }, func(p *pair) { p.forget(t, 1) },
	}
	for _, call := range calls {
		for _, name := range []string{"a", "b1", "longname", "main", "zz9"} {
			p := rich(t)
			must(t, p.remove(t, "n"), p.swap(t, name))
			c := p.clone()
			call(p)
			c.alike(t, "the clone")
			p.alike(t, "the first")
			d := p.clone()
			call(d)
			p.alike(t, "the first")
			d.alike(t, "the clone")
		}
	}
}

func TestP12Example1(t *testing.T) {
	m, m2 := at1(1), at1(2)
	b := branch.New(m.made())
	if got := b.Names(); !slices.Equal(got, []string{"main"}) {
		t.Errorf("Names: %q", got)
	}
	errnoIs(t, "Fork", b.Fork("try"), api.OK)
	errnoIs(t, "Fork", b.Fork("try"), api.ErrBranchTwice)
	errnoIs(t, "Fork", b.Fork("Try"), api.ErrBranchName)
	errnoIs(t, "Fork", b.Fork(""), api.ErrBranchName)
	errnoIs(t, "Fork", b.Fork("ninebytes"), api.ErrBranchName)
	errnoIs(t, "Delete", b.Delete("main"), api.ErrBranchMain)
	errnoIs(t, "Delete", b.Delete("no"), api.ErrBranchNone)
	errnoIs(t, "Switch", b.Switch("try"), api.OK)
	errnoIs(t, "Change", b.Change(m2.made()), api.OK)
	of, ok := b.Of("main")
	base, is := b.Base("try")
	if !ok || !is || !maps.Equal(opened(t, of), m) || !maps.Equal(opened(t, base), m) || !maps.Equal(opened(t, b.Inputs()), m2) {
		t.Errorf("of main %v, base of try %v, inputs %v", opened(t, of), opened(t, base), opened(t, b.Inputs()))
	}
	errnoIs(t, "Undo", b.Undo(), api.OK)
	errnoIs(t, "Undo", b.Undo(), api.ErrHistUndo)
	errnoIs(t, "Delete", b.Delete("try"), api.ErrBranchHere)
}
