package incr_test

import (
	"fmt"
	"math"
	"slices"
	"testing"

	"levy/api"
	"levy/incr"
)

func TestP10_6DirtyAtTheBeginning(t *testing.T) {
	m := made(t, example())
	l := m.Dirty()
	get(t, m, 4, blank, 1)
	if got := slices.Collect(l); !slices.Equal(got, []uint32{3, 5}) {
		t.Errorf("%v: it isn't gone through when Dirty is called", got)
	}
	var got []uint32
	for cell := range l {
		got = append(got, cell)
		m.Get(5)
		m.Get(3)
	}
	if !slices.Equal(got, []uint32{3, 5}) {
		t.Errorf("what is asked meanwhile: %v", got)
	}
	got = nil
	for cell := range l {
		got = append(got, cell)
	}
	if len(got) > 0 {
		t.Errorf("nothing is dirty now: %v", got)
	}
	set(t, m, 1, num(5), true)
	for cell := range l {
		if got = append(got, cell); cell == 3 {
			set(t, m, 2, num(5), true)
		}
	}
	if !slices.Equal(got, []uint32{3, 5}) {
		t.Errorf("what is set meanwhile: %v", got)
	}
	dirty(t, m, 3, 4, 5)
}

func TestP10_6LeftEarlyAndAgain(t *testing.T) {
	m := made(t, allKinds())
	all := []uint32{15, 16, 17, 21, 22, 23}
	l := m.Dirty()
	for n := range len(all) {
		var got []uint32
		l(func(cell uint32) bool {
			got = append(got, cell)
			return len(got) <= n
		})
		if !slices.Equal(got, all[:n+1]) {
			t.Errorf("left behind %d: %v", n, got)
		}
	}
	var pairs int
	for a := range l {
		for b := range l {
			if a == b {
				pairs++
			}
		}
	}
	if pairs != len(all) || !slices.Equal(slices.Collect(l), all) {
		t.Errorf("gone through within itself: %d", pairs)
	}
}

func TestP10_6NeverNil(t *testing.T) {
	m := made(t, flat(input("a", api.Cents, -1)))
	l := m.Dirty()
	if l == nil {
		t.Fatal("nil")
	}
	for cell := range l {
		t.Errorf("%d is dirty", cell)
	}
}

func TestP10_7Last(t *testing.T) {
	m := made(t, example())
	load(t, m, 3, at(0, cent(1)), at(1, num(9)), at(6, yes))
	none := func(cells ...uint32) {
		t.Helper()
		for _, cell := range cells {
			if n, ok := m.Last(cell); ok || !sameNode(n, api.Node{}) || m.Evals(cell) != 0 {
				t.Errorf("Last(%d): %+v, %t; %d evaluations", cell, n, ok, m.Evals(cell))
			}
		}
	}
	none(0, 1, 2, 3, 4, 5, 6, 7, 8, 9, 255, 256, 1<<31, math.MaxUint32)
	get(t, m, 5, cent(200000), 2)
	none(0, 1, 2, 4, 6, 7, 8, math.MaxUint32)
	was := []api.Node{{Cell: 3, Val: cent(200000), Reads: []api.Read{at(6, yes), at(1, num(9))}}, {Cell: 5, Val: cent(200000), Reads: []api.Read{at(6, yes), at(3, cent(200000)), at(7, no)}}}
	last(t, m, was[0])
	last(t, m, was[1])
	set(t, m, 1, num(30), true)
	dirty(t, m, 3, 4, 5)
	last(t, m, was[0])
	last(t, m, was[1])
	evals(t, m, 0, 0, 0, 1, 0, 1, 0, 0)
	load(t, m, 3)
	last(t, m, was[1])
	loadRefuses(t, m, 1, api.ErrIncrCell, at(9, yes))
	get(t, m, 3, blank, 1)
	last(t, m, api.Node{Cell: 3, Clause: -1, Reads: []api.Read{at(6, no)}})
	evals(t, m, 0, 0, 0, 2, 0, 1, 0, 0)
}

func TestP10_7LastIsNewMemory(t *testing.T) {
	x := computed("x", api.Cents, -1, line(2))
	x.Clauses = append(x.Clauses, exception(1, line(0), cents(1)), exception(5, line(1), cents(7)))
	m := made(t, flat(input("f", api.Flag, -1), input("g", api.Flag, -1), input("a", api.Cents, -1), x))
	load(t, m, 3, at(0, no), at(1, no), at(2, cent(3)))
	get(t, m, 3, cent(3), 1)
	a, _ := m.Last(3)
	b, _ := m.Last(3)
	want := fmt.Sprintf("%+v", b)
	reads := slices.Clone(a.Reads)
	for i := range a.Guards[:cap(a.Guards)] {
		a.Guards[:cap(a.Guards)][i] = val(-9, -9)
	}
	if !slices.Equal(a.Reads, reads) {
		t.Error("a node's lists share memory")
	}
	k := m.Clone()
	scribble(&a)
	for _, other := range []*incr.Memo{m, k} {
		c, ok := other.Last(3)
		if fmt.Sprintf("%+v", b) != want || fmt.Sprintf("%+v", c) != want || !ok {
			t.Errorf("what Last told is kept: %+v, %+v, want %s", b, c, want)
		}
		scribble(&c)
	}
	set(t, m, 2, cent(4), true) // had Seen been written to, the reads would be told as others
	set(t, m, 2, cent(3), true)
	get(t, m, 3, cent(3), 0)
}

func TestP10_8Clone(t *testing.T) {
	m := made(t, example())
	load(t, m, 3, at(0, cent(7)), at(1, num(9)), at(6, yes))
	get(t, m, 5, cent(200000), 2)
	set(t, m, 2, num(5), true)
	was := text(m)
	k := m.Clone()
	if text(k) != was {
		t.Errorf("the clone: %s, want %s", text(k), was)
	}
	set(t, m, 1, num(30), true)
	get(t, m, 5, cent(0), 2)
	get(t, m, 4, blank, 1)
	load(t, m, 4)
	if text(k) != was {
		t.Errorf("the clone, behind changes of the first: %s, want %s", text(k), was)
	}
	now := text(m)
	get(t, k, 5, cent(200000), 0)
	set(t, k, 7, yes, true)
	get(t, k, 5, cent(400000), 2)
	evals(t, k, 0, 0, 0, 1, 1, 2, 0, 0)
	load(t, k, 1, at(0, cent(8)), at(1, num(9)), at(2, num(5)), at(6, yes), at(7, yes))
	if text(m) != now {
		t.Errorf("the first, behind changes of the clone: %s, want %s", text(m), now)
	}
	evals(t, m, 0, 0, 0, 2, 1, 2, 0, 0)
	second := k.Clone()
	set(t, k, 6, no, true)
	get(t, second, 6, yes, 0)
	get(t, second, 5, cent(400000), 0)
	get(t, k, 5, cent(200000), 1)
}

func TestP10_8CloneOfANewOne(t *testing.T) {
	m := made(t, example())
	k := m.Clone()
	set(t, m, 6, yes, true)
	get(t, m, 5, needed, 2)
	dirty(t, k, 3, 4, 5)
	get(t, k, 5, cent(0), 1)
	refuses(t, k, 3, cent(1), api.ErrIncrInput)
	refuses(t, k, 8, blank, api.ErrIncrCell)
	dirty(t, m, 4)
}

// What Dirty gives is the memo's that was asked, whatever its clones do.
func TestP10_8IteratorsApart(t *testing.T) {
	m := made(t, example())
	k := m.Clone()
	l := m.Dirty()
	for range l {
		for cell := range uint32(6) {
			k.Get(cell)
		}
	}
	dirty(t, k)
	if got := slices.Collect(l); len(got) != 3 {
		t.Errorf("%v", got)
	}
}
