package merge

import (
	"levy/api"
	"levy/trie"
)

// merger: three maps, and what becomes of them, part by part. Ours stands wherever theirs hasn't been laid over it.
type merger struct {
	base, ours, theirs, merged *trie.Map
	conflicts                  []api.Conflict
}

// merge merges the keys of a part: one key, or all of a row, its flag first.
func (m *merger) merge(part ...uint32) {
	switch {
	case alike(m.ours, m.theirs, part):
	case alike(m.ours, m.base, part):
		m.takeTheirs(part)
	case alike(m.theirs, m.base, part):
	case m.usedInAll(part[0]): // a row of several keys: one key alone would be alike
		for _, key := range part {
			m.merge(key)
		}
	default:
		m.dispute(part)
	}
}

func (m *merger) takeTheirs(part []uint32) {
	for _, key := range part {
		m.merged = lay(m.merged, sideOf(m.theirs, key))
	}
}

func (m *merger) usedInAll(flag uint32) bool {
	return isUsed(m.base, flag) && isUsed(m.ours, flag) && isUsed(m.theirs, flag)
}

// dispute notes the keys of a part at which ours and theirs aren't alike.
func (m *merger) dispute(part []uint32) {
	for _, key := range part {
		c := api.Conflict{Base: sideOf(m.base, key), Ours: sideOf(m.ours, key), Theirs: sideOf(m.theirs, key)}
		if c.Ours != c.Theirs {
			m.conflicts = append(m.conflicts, c)
		}
	}
}

// alike tells whether two maps hold the same at some keys.
func alike(a, b *trie.Map, keys []uint32) bool {
	for _, key := range keys {
		if sideOf(a, key) != sideOf(b, key) {
			return false
		}
	}
	return true
}

func isUsed(m *trie.Map, flag uint32) bool {
	return sideOf(m, flag) == api.Change{Id: flag, Has: true, Now: api.Value{Kind: api.Flag, Num: 1}}
}

// sideOf tells what a map holds at a key, or that it holds nothing, as a conflict tells it: so two sides are alike just if these are the same.
func sideOf(m *trie.Map, key uint32) api.Change {
	v, ok := m.Get(key)
	return api.Change{Id: key, Has: ok, Now: v}
}

// lay tells a map that holds at a side's key what the side does.
func lay(m *trie.Map, side api.Change) *trie.Map {
	if !side.Has {
		return m.Drop(side.Id)
	}
	return m.Put(side.Id, side.Now)
}
