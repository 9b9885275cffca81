package merge_test

import (
	"iter"
	"math"
	"slices"
	"testing"

	"levy/api"
	"levy/merge"
	"levy/trie"
)

func TestExample4(t *testing.T) {
	x := val(api.Choice, 7)
	l := changes(example(), trie.Empty(), mapOf(cells{6: yes, 1: num(9), 0: cent(5), 99: x}))
	want := []api.Change{{Id: 0, Has: true, Now: cent(5)}, {Id: 6, Has: true, Now: yes}, {Id: 1, Has: true, Now: num(9)}, {Id: 99, Has: true, Now: x}}
	if !slices.Equal(l, want) {
		t.Errorf("%+v, want %+v", l, want)
	}
}

// The order of all cells: input lines of no group, rows with their flags ahead, all else rising.
func TestP15_1Order(t *testing.T) {
	all := cells{}
	for cell := range uint32(24) {
		all[cell] = cent(int64(cell))
	}
	more := []uint32{24, 255, 256, 1 << 31, math.MaxUint32}
	for _, key := range more {
		all[key] = cent(1)
	}
	want := append(slices.Clone(mixedOrder), more...)
	if got := keysOf(changes(mixed(), nil, mapOf(all))); !slices.Equal(got, want) {
		t.Errorf("all come: %v, want %v", got, want)
	}
	if got := keysOf(changes(mixed(), mapOf(all), nil)); !slices.Equal(got, want) {
		t.Errorf("all go: %v, want %v", got, want)
	}
	for i, key := range want {
		less := all.without(key)
		if got := keysOf(changes(mixed(), nil, mapOf(less))); !slices.Equal(got, slices.Delete(slices.Clone(want), i, i+1)) {
			t.Errorf("all but %d: %v", key, got)
		}
	}
}

// Packs of as many cells as may be, whose last cell is a check's, and a flag.
func TestP15_1TheGreatestPacks(t *testing.T) {
	flagLast := greatest()
	flagLast.Lines, flagLast.Checks = append(flagLast.Lines, input("x", api.Cents, 2), input("w", api.Cents, 3)), nil
	all := cells{256: cent(1), 257: cent(2), 300: cent(3), 512: cent(4)}
	for cell := range uint32(api.MaxCells) {
		all[cell] = yes
	}
	for _, p := range []api.Pack{greatest(), flagLast} {
		m := modelOf(t, p)
		if m.graph.Cells() != api.MaxCells {
			t.Fatalf("%d cells", m.graph.Cells())
		}
		if got := keysOf(changes(p, nil, mapOf(all))); !slices.Equal(got, m.inOrder(all)) || len(got) != api.MaxCells+4 {
			t.Errorf("%v, want %v", got, m.inOrder(all))
		}
	}
	if l := keysOf(changes(greatest(), nil, mapOf(all))); !slices.Equal(l[:9], []uint32{208, 0, 32, 64, 96, 128, 160, 209, 1}) || l[len(l)-5] != 255 {
		t.Errorf("a check is the last cell: %v", l)
	}
	if l := keysOf(changes(flagLast, nil, mapOf(all))); !slices.Equal(l[:2], []uint32{224, 0}) || l[len(l)-5] != 207 || !slices.Equal(l[len(l)-28:len(l)-20], []uint32{255, 31, 63, 95, 127, 159, 191, 223}) {
		t.Errorf("a flag is the last cell: %v", l)
	}
}

// What is told of a key: whether it was there, and is, and what stood and stands there.
func TestP15_2Told(t *testing.T) {
	a := cells{0: cent(1), 1: num(2), 2: num(3), 5: blank, 6: yes, 300: cent(1)}
	b := cells{0: cent(2), 2: num(3), 4: cent(9), 6: no, 7: yes, 300: num(1), 301: blank}
	want := []api.Change{
		{Id: 0, Had: true, Was: cent(1), Has: true, Now: cent(2)},
		{Id: 6, Had: true, Was: yes, Has: true, Now: no},
		{Id: 1, Had: true, Was: num(2)},
		{Id: 7, Has: true, Now: yes},
		{Id: 4, Has: true, Now: cent(9)},
		{Id: 5, Had: true, Was: blank},
		{Id: 300, Had: true, Was: cent(1), Has: true, Now: num(1)},
		{Id: 301, Has: true, Now: blank},
	}
	if l := changes(example(), mapOf(a), mapOf(b)); !slices.Equal(l, want) {
		t.Errorf("%+v, want %+v", l, want)
	}
	if l := changes(example(), mapOf(a), mapOf(a)); len(l) != 0 {
		t.Errorf("two maps that hold the same: %+v", l)
	}
	one := mapOf(a)
	if l := changes(example(), one, one); len(l) != 0 {
		t.Errorf("a map and itself: %+v", l)
	}
	if l := changes(example(), nil, nil); len(l) != 0 {
		t.Errorf("no maps: %+v", l)
	}
	if l := changes(example(), nil, trie.Empty()); len(l) != 0 {
		t.Errorf("no map and the empty one: %+v", l)
	}
}

// left goes through changes up to a number of them, and tells these; it fails if one more is given behind that.
func left(t *testing.T, seq iter.Seq[api.Change], many int) []api.Change {
	t.Helper()
	var l []api.Change
	seq(func(c api.Change) bool {
		if len(l) >= many {
			t.Errorf("left behind %d, and one more is given: %+v", many, c)
		}
		l = append(l, c)
		return len(l) < many
	})
	return l
}

func TestP15_2LeftEarlyAndAgain(t *testing.T) {
	a := cells{0: cent(1), 1: num(2), 4: cent(7), 6: yes, 13: cent(1), 300: cent(1)}
	b := cells{0: cent(2), 2: num(3), 14: yes, 19: yes, 20: no, 300: num(1), 301: blank}
	seq := merge.Changes(mixed(), mapOf(a), mapOf(b))
	want := modelOf(t, mixed()).changes(a, b)
	for many := 1; many <= len(want); many++ {
		if l := left(t, seq, many); !slices.Equal(l, want[:many]) {
			t.Errorf("left behind %d: %+v, want %+v", many, l, want[:many])
		}
		if l := slices.Collect(seq); !slices.Equal(l, want) {
			t.Errorf("gone through again: %+v, want %+v", l, want)
		}
	}
}

// Gone through while it is gone through, each time from the beginning.
func TestP15_2WithinItself(t *testing.T) {
	a, b := cells{0: cent(1), 300: cent(1)}, cells{1: num(3), 6: yes, 301: blank}
	seq := merge.Changes(example(), mapOf(a), mapOf(b))
	want := modelOf(t, example()).changes(a, b)
	var outer []api.Change
	for c := range seq {
		outer = append(outer, c)
		if inner := slices.Collect(seq); !slices.Equal(inner, want) {
			t.Errorf("within: %+v, want %+v", inner, want)
		}
		left(t, seq, 2)
	}
	if !slices.Equal(outer, want) {
		t.Errorf("around: %+v, want %+v", outer, want)
	}
}

// What becomes of the pack behind the call, before and while the changes are gone through, isn't seen.
func TestP15_2ThePackBehindTheCall(t *testing.T) {
	a, b := cells{}, cells{}
	for cell := range uint32(30) {
		b[cell] = num(int64(cell))
	}
	want := modelOf(t, mixed()).changes(a, b)
	p := mixed()
	roomy(&p)
	seq := merge.Changes(p, mapOf(a), mapOf(b))
	scribble(&p)
	if l := slices.Collect(seq); !slices.Equal(l, want) {
		t.Errorf("behind the call: %+v, want %+v", l, want)
	}
	p = mixed()
	seq = merge.Changes(p, mapOf(a), mapOf(b))
	var l []api.Change
	for c := range seq {
		l = append(l, c)
		scribble(&p)
	}
	if !slices.Equal(l, want) || !slices.Equal(slices.Collect(seq), want) {
		t.Errorf("while it is gone through: %+v, want %+v", l, want)
	}
}

// Maps made of those that were handed in, and laid in the same names, aren't seen.
func TestP15_2TheMapsBehindTheCall(t *testing.T) {
	a, b := mapOf(cells{0: cent(1)}), mapOf(cells{0: cent(2), 6: yes})
	seq := merge.Changes(example(), a, b)
	a, b = a.Put(7, yes), b.Drop(6)
	if l := keysOf(slices.Collect(seq)); !slices.Equal(l, []uint32{0, 6}) {
		t.Errorf("%v", l)
	}
	if l := keysOf(changes(example(), a, b)); !slices.Equal(l, []uint32{0, 7}) {
		t.Errorf("the new ones: %v", l)
	}
}
