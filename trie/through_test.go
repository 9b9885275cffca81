package trie_test

import (
	"iter"
	"math"
	"slices"
	"testing"

	"levy/api"
	"levy/trie"
)

// lows: where From is asked: at each key, beside it, and at the ends.
func lows(p pair) []uint32 {
	l := []uint32{0, 1, 1 << 31, math.MaxUint32}
	for id := range p.model.vals {
		l = append(l, id, id-1, id+1, id&^15, id|15, id&^0xffff, id|0xffff)
	}
	return l
}

// P3.4: All gives all keys, rising; From those from a key on.
func TestP3_4AllFrom(t *testing.T) {
	for _, l := range histories() {
		for i, p := range l {
			if got, want := entries(p.m.All()), p.model.entries(0); !slices.Equal(got, want) {
				t.Fatalf("map %d: All: %v, want %v", i, got, want)
			}
			if i%5 != 0 {
				continue
			}
			for _, low := range lows(p) {
				if got, want := entries(p.m.From(low)), p.model.entries(low); !slices.Equal(got, want) {
					t.Fatalf("map %d: From(%#x): %v, want %v", i, low, got, want)
				}
			}
		}
	}
}

// P3.4: the document's example.
func TestP3_4Example(t *testing.T) {
	m3 := trie.Empty().Put(5, cents(1)).Put(far, cents(2)).Put(5, cents(3))
	if got := entries(m3.All()); !slices.Equal(got, []api.Entry{{Id: 5, Val: cents(3)}, {Id: far, Val: cents(2)}}) {
		t.Errorf("All: %v", got)
	}
	if got := entries(m3.From(6)); !slices.Equal(got, []api.Entry{{Id: far, Val: cents(2)}}) {
		t.Errorf("From(6): %v", got)
	}
	if got := entries(m3.From(far + 1)); len(got) != 0 {
		t.Errorf("From behind all: %v", got)
	}
}

// leave goes through an iterator by hand up to its n-th item, and tells how many it was given.
func leave[T any](seq iter.Seq[T], n int) int {
	calls := 0
	seq(func(T) bool {
		calls++
		return calls < n
	})
	return calls
}

func ids(seq iter.Seq2[uint32, api.Value]) iter.Seq[uint32] {
	return func(yield func(uint32) bool) {
		seq(func(id uint32, _ api.Value) bool { return yield(id) })
	}
}

func checkLeaving[T comparable](t *testing.T, what string, seq iter.Seq[T]) {
	t.Helper()
	all := slices.Collect(seq)
	for n := 1; n <= len(all)+1; n++ {
		if got := leave(seq, n); got != min(n, len(all)) {
			t.Errorf("P3.5: %s: told to end at item %d of %d, it gave %d", what, n, len(all), got)
		}
		if again := slices.Collect(seq); !slices.Equal(again, all) {
			t.Errorf("P3.5: %s: left at %d, gone through again it gives %v, want %v", what, n, again, all)
		}
	}
}

// P3.5: an iterator ends when it is told to, and begins anew each time.
func TestP3_5Leaving(t *testing.T) {
	for _, l := range histories() {
		a, b := l[len(l)/2], l[len(l)-1]
		checkLeaving(t, "All", ids(b.m.All()))
		checkLeaving(t, "From", ids(b.m.From(0xfff8)))
		checkLeaving(t, "Diff", trie.Diff(a.m, b.m))
		checkLeaving(t, "Diff from nothing", trie.Diff(trie.Empty(), b.m))
		checkLeaving(t, "Diff to nothing", trie.Diff(b.m, trie.Empty()))
	}
}

func checkNested[T comparable](t *testing.T, what string, seq iter.Seq[T]) {
	t.Helper()
	all := slices.Collect(seq)
	var outer, inner []T
	for x := range seq {
		outer = append(outer, x)
		inner = append(inner, slices.Collect(seq)...)
	}
	if !slices.Equal(outer, all) || !slices.Equal(inner, slices.Repeat(all, len(all))) {
		t.Errorf("P3.5: %s: gone through within itself it gives something else", what)
	}
	next, stop := iter.Pull(seq)
	defer stop()
	for i, x := range all {
		if got, ok := next(); !ok || got != x || leave(seq, i+1) != i+1 {
			t.Errorf("P3.5: %s: beside itself it gives %v at %d, want %v", what, got, i, x)
		}
	}
}

// P3.5: an iterator goes within itself, and beside others of the same map.
func TestP3_5Nested(t *testing.T) {
	for _, l := range histories() {
		a, b := l[len(l)/3], l[len(l)-1]
		checkNested(t, "All", ids(b.m.All()))
		checkNested(t, "From", ids(b.m.From(1<<28)))
		checkNested(t, "Diff", trie.Diff(a.m, b.m))
		checkNested(t, "Diff to nothing", trie.Diff(b.m, trie.Empty()))
	}
}

// P3.5: what is made of the map meanwhile changes nothing of what it gives.
func TestP3_5Meanwhile(t *testing.T) {
	m := trie.Empty()
	for _, id := range edges() {
		m = m.Put(id, cents(int64(id)))
	}
	base := m.Drop(1)
	want, changes := entries(m.All()), slices.Collect(trie.Diff(base, m))
	got := []api.Entry(nil)
	for id, v := range m.All() {
		got = append(got, api.Entry{Id: id, Val: v})
		for _, other := range edges() {
			m.Drop(other)
			m.Put(other, cents(-1)).Put(other+1, cents(-2))
		}
	}
	if !slices.Equal(got, want) {
		t.Errorf("All: %v, want %v", got, want)
	}
	var told []api.Change
	for c := range trie.Diff(base, m) {
		told = append(told, c)
		base.Put(c.Id, c.Now)
		m.Drop(c.Id)
	}
	if !slices.Equal(told, changes) {
		t.Errorf("Diff: %v, want %v", told, changes)
	}
}

// P3.6: Diff tells each key that differs, rising, with what both have there.
func TestP3_6Diff(t *testing.T) {
	for _, l := range histories() {
		for i := range l {
			for _, j := range []int{0, i, (i + 1) % len(l), (i * 7) % len(l), len(l) - 1} {
				got, want := slices.Collect(trie.Diff(l[i].m, l[j].m)), l[i].model.diff(l[j].model)
				if !slices.Equal(got, want) {
					t.Fatalf("Diff(map %d, map %d): %v, want %v", i, j, got, want)
				}
			}
		}
	}
}

// P3.6: the document's example, and values that differ in one field alone, or from a key that isn't there in none.
func TestP3_6Changes(t *testing.T) {
	m0 := trie.Empty()
	m1 := m0.Put(5, cents(1))
	m3 := m1.Put(far, cents(2)).Put(5, cents(3))
	zero := api.Value{}
	count := api.Value{Kind: api.Count, Num: 1}
	for _, c := range []struct {
		a, b *trie.Map
		want []api.Change
	}{
		{m1, m3, []api.Change{{Id: 5, Had: true, Has: true, Was: cents(1), Now: cents(3)}, {Id: far, Has: true, Now: cents(2)}}},
		{m3, m1, []api.Change{{Id: 5, Had: true, Has: true, Was: cents(3), Now: cents(1)}, {Id: far, Had: true, Was: cents(2)}}},
		{m1, m0.Put(5, cents(1)), nil},
		{m1, m1, nil},
		{m0, m0, nil},
		{m1, m0.Put(5, count), []api.Change{{Id: 5, Had: true, Has: true, Was: cents(1), Now: count}}},
		{m0, m0.Put(5, zero), []api.Change{{Id: 5, Has: true}}},
		{m0.Put(5, zero), m0, []api.Change{{Id: 5, Had: true}}},
		{m1, m1.Put(6, zero), []api.Change{{Id: 6, Has: true}}},
		{m1.Put(6, zero), m1, []api.Change{{Id: 6, Had: true}}},
		{m1, m1.Put(5, zero), []api.Change{{Id: 5, Had: true, Has: true, Was: cents(1)}}},
	} {
		if got := slices.Collect(trie.Diff(c.a, c.b)); !slices.Equal(got, c.want) {
			t.Errorf("Diff(%v, %v): %v, want %v", entries(c.a.All()), entries(c.b.All()), got, c.want)
		}
	}
}
