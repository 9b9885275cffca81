package trie_test

import (
	"slices"
	"testing"

	"levy/api"
	"levy/trie"
)

// P3.1: the empty map has no keys.
func TestP3_1Empty(t *testing.T) {
	m := trie.Empty()
	if m == nil {
		t.Fatal("Empty tells nil")
	}
	if m.Len() != 0 || len(entries(m.All())) != 0 || len(entries(m.From(0))) != 0 {
		t.Errorf("Empty has %d keys: %v", m.Len(), entries(m.All()))
	}
	for _, id := range edges() {
		if v, ok := m.Get(id); ok || v != (api.Value{}) {
			t.Errorf("Empty has %v at %#x", v, id)
		}
		if m.Drop(id).Len() != 0 {
			t.Errorf("Empty less %#x has keys", id)
		}
	}
	m.Put(5, cents(1))
	if m.Len() != 0 || trie.Empty().Len() != 0 {
		t.Error("a Put into Empty is seen in it, or in the next one")
	}
}

// P3.2: Get tells value and true, or zero and false; Len counts.
func TestP3_2Get(t *testing.T) {
	for _, id := range edges() {
		for _, v := range oddValues() {
			m := trie.Empty().Put(id, v)
			if got, ok := m.Get(id); !ok || got != v || m.Len() != 1 {
				t.Errorf("Get(%#x): %v, %v of %d, want %v", id, got, ok, m.Len(), v)
			}
			for _, other := range edges() {
				if got, ok := m.Get(other); other != id && (ok || got != api.Value{}) {
					t.Errorf("Get(%#x): %v, %v, but there is only %#x", other, got, ok, id)
				}
			}
			if got, ok := m.Drop(id).Get(id); ok || got != (api.Value{}) {
				t.Errorf("Get(%#x) behind Drop: %v, %v", id, got, ok)
			}
		}
	}
}

// P3.2: Len counts a key once, however often it is put or dropped.
func TestP3_2Len(t *testing.T) {
	m := trie.Empty()
	for i, id := range edges() {
		m = m.Put(id, cents(1)).Put(id, cents(1)).Put(id, cents(2))
		if m.Len() != i+1 {
			t.Fatalf("Len: %d behind %d keys", m.Len(), i+1)
		}
	}
	for i, id := range edges() {
		m = m.Drop(id).Drop(id)
		if want := len(edges()) - 1 - i; m.Len() != want {
			t.Fatalf("Len: %d behind a Drop, want %d", m.Len(), want)
		}
	}
}

// P3.3: Put and Drop change the one key, in the answer alone; looked at when all maps are made.
func TestP3_3Versions(t *testing.T) {
	for _, l := range histories() {
		for i, p := range l {
			if p.m.Len() != len(p.model.vals) {
				t.Fatalf("map %d: Len %d, want %d", i, p.m.Len(), len(p.model.vals))
			}
			if got, want := entries(p.m.All()), p.model.entries(0); !slices.Equal(got, want) {
				t.Fatalf("map %d: %v, want %v", i, got, want)
			}
			for id, v := range p.model.vals {
				if got, ok := p.m.Get(id); !ok || got != v {
					t.Fatalf("map %d: %v, %v at %#x, want %v", i, got, ok, id, v)
				}
			}
		}
	}
}

// P3.3: two versions made of one don't meet.
func TestP3_3Siblings(t *testing.T) {
	m := trie.Empty().Put(16, cents(1)).Put(17, cents(2))
	a, b, c := m.Put(17, cents(3)), m.Put(18, cents(4)), m.Drop(17)
	want := []struct {
		m    *trie.Map
		keys []api.Entry
	}{
		{m, []api.Entry{{Id: 16, Val: cents(1)}, {Id: 17, Val: cents(2)}}},
		{a, []api.Entry{{Id: 16, Val: cents(1)}, {Id: 17, Val: cents(3)}}},
		{b, []api.Entry{{Id: 16, Val: cents(1)}, {Id: 17, Val: cents(2)}, {Id: 18, Val: cents(4)}}},
		{c, []api.Entry{{Id: 16, Val: cents(1)}}},
	}
	for i, w := range want {
		if got := entries(w.m.All()); !slices.Equal(got, w.keys) || w.m.Len() != len(w.keys) {
			t.Errorf("map %d: %v (Len %d), want %v", i, got, w.m.Len(), w.keys)
		}
	}
}
