package trie_test

import (
	"slices"
	"testing"
	"time"

	"levy/api"
	"levy/trie"
)

// P3.7: a map has the nodes of its keys' first bits, at eight levels.
func TestP3_7Nodes(t *testing.T) {
	m0 := trie.Empty()
	checkShared(t, "none, none", m0, m0, 0, 0)
	for _, id := range edges() {
		checkShared(t, "none, one key", m0, m0.Put(id, cents(1)), 0, 8)
	}
	for level := range 8 {
		for _, bit := range []int{0, 1, 2, 3} {
			two := m0.Put(0, cents(1)).Put(uint32(1)<<(4*level+bit), cents(2))
			checkShared(t, "none, two keys", m0, two, 0, 8+level)
		}
	}
	for _, l := range histories() {
		for _, p := range l {
			checkShared(t, "none, a map", m0, p.m, 0, len(p.model.nodes))
		}
	}
}

// P3.8: a Put of what is there, and a Drop of what isn't, answer the map itself.
func TestP3_8Itself(t *testing.T) {
	for _, l := range histories() {
		m := l[len(l)-1].m
		for _, id := range edges() {
			v, ok := m.Get(id)
			if ok && m.Put(id, v) != m || !ok && m.Drop(id) != m {
				t.Errorf("at %#x the map itself isn't answered", id)
			}
			if !ok && m.Put(id, api.Value{}) == m {
				t.Errorf("a Put of the zero value at %#x does nothing", id)
			}
			if ok && (m.Put(id, api.Value{Kind: v.Kind + 1, Num: v.Num}) == m || m.Put(id, api.Value{Kind: v.Kind, Num: v.Num + 1}) == m) {
				t.Errorf("a Put of another value at %#x does nothing", id)
			}
		}
	}
}

// P3.8: the key's nodes are new ones, all others the map's.
func TestP3_8Fresh(t *testing.T) {
	for _, l := range histories() {
		p := l[len(l)-1]
		count := len(p.model.nodes)
		for id, v := range p.model.vals {
			put := p.m.Put(id, api.Value{Kind: v.Kind, Num: v.Num ^ 1})
			checkShared(t, "a map, another value put", p.m, put, count-8, 8)
			checkShared(t, "a map, put back", p.m, put.Put(id, v), count-8, 8)
		}
	}
	k := &maker{made: 1 << 40} // apart from the numbers of the histories' nodes
	for _, l := range histories() {
		for _, p := range l {
			for _, id := range []uint32{0, 5, far, 0x10000, 0xffffffff} {
				put, drop := k.put(p.model, id, cents(-7)), k.drop(p.model, id)
				same, _ := p.model.shared(put)
				checkShared(t, "a map, a put", p.m, p.m.Put(id, cents(-7)), same, len(put.nodes)-same)
				same, _ = p.model.shared(drop)
				checkShared(t, "a map, a drop", p.m, p.m.Drop(id), same, len(drop.nodes)-same)
			}
		}
	}
}

// P3.9: Shared counts the very same nodes, among any two maps.
func TestP3_9Shared(t *testing.T) {
	for _, l := range histories() {
		for i, a := range l {
			for j := i % 3; j < len(l); j += 3 {
				same, fresh := a.model.shared(l[j].model)
				checkShared(t, "two maps of a history", a.m, l[j].m, same, fresh)
			}
		}
	}
}

// P3.9: the document's examples.
func TestP3_9Examples(t *testing.T) {
	m0 := trie.Empty()
	m1 := m0.Put(5, cents(1))
	m2 := m1.Put(far, cents(2))
	m3 := m2.Put(5, cents(3))
	checkShared(t, "m1, m2", m1, m2, 7, 8)
	checkShared(t, "m2, m3", m2, m3, 7, 8)
	checkShared(t, "m2, m2.Put(5, x)", m2, m2.Put(5, cents(1)), 15, 0)
	checkShared(t, "m3, m2", m3, m2, 7, 8)
	checkShared(t, "m1, m3", m1, m3, 0, 15)
	checkShared(t, "m2, m2.Drop(5)", m2, m2.Drop(5), 7, 1)
	checkShared(t, "m0, m2.Drop(5)", m0, m2.Drop(5), 0, 8)
	checkShared(t, "m1, m1.Drop(5)", m1, m1.Drop(5), 0, 0)
	checkShared(t, "m1, m0.Put(5, x)", m1, m0.Put(5, cents(1)), 0, 8)
	for c := range trie.Diff(m1, m0.Put(5, cents(1))) {
		t.Errorf("P3.6: %v differs", c)
	}
}

// P3.9: behind n Puts and Drops a map has at most 8n nodes that the first one hasn't.
func TestP3_9History(t *testing.T) {
	first := trie.Empty()
	for id := range uint32(5000) {
		first = first.Put(id*37, cents(int64(id)))
	}
	m := first
	for n := range 200 {
		if n%3 == 0 {
			m = m.Drop(uint32(n) * 37 * 11)
		} else {
			m = m.Put(uint32(n)*53, cents(-1))
		}
		if same, fresh := trie.Shared(first, m); fresh > 8*(n+1) || same == 0 {
			t.Fatalf("behind %d steps: %d, %d", n+1, same, fresh)
		}
	}
}

// P3.10: what Diff costs hangs on what differs: a thousand of them cost less than a hundred ways through the map.
func TestP3_10Cost(t *testing.T) {
	m := trie.Empty()
	for id := range uint32(1 << 16) {
		m = m.Put(id*3, cents(int64(id)))
	}
	begun := time.Now()
	for range 100 {
		n := 0
		for range m.All() {
			n++
		}
		if n != m.Len() {
			t.Fatalf("All gives %d of %d", n, m.Len())
		}
	}
	through := time.Since(begun)
	other := m.Put(3000, cents(-1)).Put(1<<31, cents(-2)).Drop(30)
	begun = time.Now()
	for range 1000 {
		n := 0
		for range trie.Diff(m, other) {
			n++
		}
		if n != 3 {
			t.Fatalf("Diff tells %d changes", n)
		}
	}
	if took := time.Since(begun); took > through {
		t.Errorf("1000 Diffs of three changes took %v, 100 ways through the map %v", took, through)
	}
}

// P3.11: same keys and values, just if Diff gives nothing, just if All gives the same; what Diff tells, put into a, makes b.
func TestP3_11Law(t *testing.T) {
	for _, l := range histories() {
		for i, a := range l {
			for j := i % 5; j < len(l); j += 5 {
				b := l[j]
				alike := slices.Equal(a.model.entries(0), b.model.entries(0))
				if none := leave(trie.Diff(a.m, b.m), 1) == 0; none != alike {
					t.Fatalf("maps %d, %d: alike %v, but Diff gives nothing: %v", i, j, alike, none)
				}
				if all := slices.Equal(entries(a.m.All()), entries(b.m.All())); all != alike {
					t.Fatalf("maps %d, %d: alike %v, but All the same: %v", i, j, alike, all)
				}
				made := a.m
				for c := range trie.Diff(a.m, b.m) {
					if c.Has {
						made = made.Put(c.Id, c.Now)
					} else {
						made = made.Drop(c.Id)
					}
				}
				if !slices.Equal(entries(made.All()), b.model.entries(0)) || made.Len() != b.m.Len() {
					t.Fatalf("maps %d, %d: what Diff tells doesn't make the other", i, j)
				}
			}
		}
	}
}

// P3.11: however a map was made, it is the same.
func TestP3_11Ways(t *testing.T) {
	rising, falling, detour := trie.Empty(), trie.Empty(), trie.Empty()
	l := edges()
	for i := range l {
		rising = rising.Put(l[i], cents(int64(l[i])))
		falling = falling.Put(l[len(l)-1-i], cents(int64(l[len(l)-1-i])))
		detour = detour.Put(l[i]^0x01010101, cents(9)).Put(l[i], cents(8))
	}
	for _, id := range l {
		detour = detour.Drop(id ^ 0x01010101)
	}
	for _, id := range l {
		detour = detour.Put(id, cents(int64(id)))
	}
	for _, m := range []*trie.Map{falling, detour} {
		if leave(trie.Diff(rising, m), 1) != 0 || !slices.Equal(entries(m.All()), entries(rising.All())) || m.Len() != len(l) {
			t.Errorf("made otherwise it differs: %v", slices.Collect(trie.Diff(rising, m)))
		}
		_, fresh := trie.Shared(trie.Empty(), m)
		checkShared(t, "none, made otherwise", trie.Empty(), rising, 0, fresh)
	}
}
