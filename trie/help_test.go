package trie_test

import (
	"iter"
	"maps"
	"math"
	"math/rand"
	"slices"
	"testing"

	"levy/api"
	"levy/trie"
)

const far = 0x50000000

func cents(n int64) api.Value { return api.Value{Kind: api.Cents, Num: n} }

// edges: keys that differ at each of the levels, and the least and the greatest.
func edges() []uint32 {
	l := []uint32{0, 1, math.MaxUint32 - 1, math.MaxUint32, 0x12345678}
	for level := range 8 {
		l = append(l, 1<<(4*level), 15<<(4*level), 0x12345678^(1<<(4*level)))
	}
	slices.Sort(l)
	return slices.Compact(l)
}

// oddValues: what the layers above never store, beside what they do.
func oddValues() []api.Value {
	return []api.Value{
		{}, {Kind: api.Blank, Num: 7}, cents(1), cents(-1), {Kind: api.Count, Num: 1}, {Kind: -3}, {Kind: 99, Num: math.MinInt64},
		{Kind: api.Fault, Num: api.Wrong}, {Kind: math.MaxInt, Num: math.MaxInt64},
	}
}

func entries(seq iter.Seq2[uint32, api.Value]) []api.Entry {
	var l []api.Entry
	for id, v := range seq {
		l = append(l, api.Entry{Id: id, Val: v})
	}
	return l
}

// model: what a map must be: the values by key, and the nodes by level and first bits, each with a number of its own.
type model struct {
	vals  map[uint32]api.Value
	nodes map[prefix]int
}

type prefix struct {
	level int
	bits  uint32
}

// maker numbers the nodes of all its models.
type maker struct{ made int }

func (model) prefixes(id uint32) []prefix {
	var l []prefix
	for level := range 8 {
		l = append(l, prefix{level, uint32(uint64(id) >> (32 - 4*level))})
	}
	return l
}

func empty() model { return model{map[uint32]api.Value{}, map[prefix]int{}} }

func (m model) clone() model { return model{maps.Clone(m.vals), maps.Clone(m.nodes)} }

func (k *maker) put(m model, id uint32, v api.Value) model {
	if old, ok := m.vals[id]; ok && old == v {
		return m
	}
	m = m.clone()
	m.vals[id] = v
	for _, p := range m.prefixes(id) {
		k.made++
		m.nodes[p] = k.made
	}
	return m
}

func (k *maker) drop(m model, id uint32) model {
	if _, ok := m.vals[id]; !ok {
		return m
	}
	m = m.clone()
	delete(m.vals, id)
	kept := map[prefix]bool{}
	for other := range m.vals {
		for _, p := range m.prefixes(other) {
			kept[p] = true
		}
	}
	for _, p := range m.prefixes(id) {
		delete(m.nodes, p)
		if kept[p] {
			k.made++
			m.nodes[p] = k.made
		}
	}
	return m
}

func (m model) entries(low uint32) []api.Entry {
	var l []api.Entry
	for _, id := range slices.Sorted(maps.Keys(m.vals)) {
		if id >= low {
			l = append(l, api.Entry{Id: id, Val: m.vals[id]})
		}
	}
	return l
}

func (m model) diff(b model) []api.Change {
	all := maps.Clone(m.vals)
	maps.Copy(all, b.vals)
	var l []api.Change
	for _, id := range slices.Sorted(maps.Keys(all)) {
		c := api.Change{Id: id}
		c.Was, c.Had = m.vals[id]
		c.Now, c.Has = b.vals[id]
		if c.Had != c.Has || c.Was != c.Now {
			l = append(l, c)
		}
	}
	return l
}

func (m model) shared(b model) (same, fresh int) {
	for p, n := range b.nodes {
		if m.nodes[p] == n {
			same++
		} else {
			fresh++
		}
	}
	return same, fresh
}

// pair: a map and its model.
type pair struct {
	m     *trie.Map
	model model
}

// history: maps made one from another by chance (the same each time), over few keys, so that they meet.
func history(seed int64, steps int, ids []uint32) []pair {
	r := rand.New(rand.NewSource(seed))
	vals := oddValues()
	k := &maker{}
	l := []pair{{trie.Empty(), empty()}}
	for range steps {
		from := l[max(0, len(l)-1-r.Intn(3))]
		id := ids[r.Intn(len(ids))]
		if r.Intn(5) < 2 {
			l = append(l, pair{from.m.Drop(id), k.drop(from.model, id)})
			continue
		}
		v := vals[r.Intn(len(vals))]
		l = append(l, pair{from.m.Put(id, v), k.put(from.model, id, v)})
	}
	return l
}

func histories() [][]pair {
	thin := edges()
	dense := make([]uint32, 40)
	for i := range dense {
		dense[i] = uint32(i) + 0xfff0
	}
	r := rand.New(rand.NewSource(3))
	wide := make([]uint32, 30)
	for i := range wide {
		wide[i] = r.Uint32()
	}
	return [][]pair{history(1, 150, thin), history(2, 150, dense), history(4, 150, wide), history(5, 60, []uint32{5, far})}
}

func checkShared(t *testing.T, what string, a, b *trie.Map, same, fresh int) {
	t.Helper()
	if s, f := trie.Shared(a, b); s != same || f != fresh {
		t.Errorf("P3.9: Shared(%s): %d, %d, want %d, %d", what, s, f, same, fresh)
	}
}
