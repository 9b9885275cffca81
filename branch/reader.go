package branch

import (
	"math"

	"levy/api"
	"levy/hist"
	"levy/trie"
)

// reader: the bytes that are left, and whether a fault was met. Behind a fault nothing is left: what the pieces say from there on doesn't count.
type reader struct {
	left []byte
	bad  bool
}

func (r *reader) fail() { r.left, r.bad = nil, true }

func (r *reader) book() *Book {
	if r.oneByte() != lead {
		r.fail()
	}
	count := r.between(1, api.MaxBranches)
	b := &Book{branches: map[string]*branch{}}
	var names []string
	for range count {
		name := r.name(names)
		names = append(names, name)
		b.branches[name] = r.branch()
	}
	place := r.between(0, count-1)
	if _, ok := b.branches[mainName]; !ok {
		r.fail()
	}
	if r.bad {
		return nil
	}
	b.current = names[place]
	return b
}

// name reads a branch's name, which stands behind all names ahead of it.
func (r *reader) name(ahead []string) string {
	s := r.raw(r.between(1, maxName))
	if !isName(s) || len(ahead) > 0 && s <= ahead[len(ahead)-1] {
		r.fail()
	}
	return s
}

// branch reads a branch's base and versions. They are pushed one behind the other, and those that were undone are so again: a history takes as many as may be written.
func (r *reader) branch() *branch {
	base := r.difference(trie.Empty())
	undo := r.between(0, api.MaxHistory)
	redo := r.between(0, api.MaxHistory-undo)
	version := r.difference(base)
	h := hist.New(version)
	for range undo + redo {
		version = r.difference(version)
		h.Push(version)
	}
	for range redo {
		h.Undo()
	}
	return &branch{h, base}
}

// difference reads the changes that lead from a map to another one, and tells that one. It is left at a fault: their number alone may say far more than there are.
func (r *reader) difference(m *trie.Map) *trie.Map {
	least := uint64(0)
	for range r.number() {
		id := r.between(least, math.MaxUint32)
		next := r.change(m, uint32(id))
		if next == m { // Put and Drop tell the map itself, where they change nothing
			r.fail()
		}
		if r.bad {
			break
		}
		m, least = next, id+1
	}
	return m
}

// change reads what becomes of a key of the map.
func (r *reader) change(m *trie.Map, id uint32) *trie.Map {
	if r.between(markGone, markHeld) == markGone {
		return m.Drop(id)
	}
	kind := r.signed()
	return m.Put(id, api.Value{Kind: int(kind), Num: r.signed()})
}

func (r *reader) oneByte() byte {
	if len(r.left) == 0 {
		r.fail()
		return 0
	}
	b := r.left[0]
	r.left = r.left[1:]
	return b
}

func (r *reader) raw(n uint64) string {
	if n > uint64(len(r.left)) {
		r.fail()
		return ""
	}
	s := string(r.left[:n])
	r.left = r.left[n:]
	return s
}

// between reads a number that is neither below least nor above most.
func (r *reader) between(least, most uint64) uint64 {
	n := r.number()
	if n < least || n > most {
		r.fail()
		return 0
	}
	return n
}

func (r *reader) number() uint64 {
	n := uint64(0)
	for i, b := range r.left {
		if i == 9 && b > 1 || i > 0 && b == 0 { // the tenth group has room for one bit, and none but the number 0 ends with a group of 0
			break
		}
		n |= uint64(b&0x7f) << (7 * i)
		if b < 0x80 {
			r.left = r.left[i+1:]
			return n
		}
	}
	r.fail()
	return 0
}

// signed reads the numbers 0, 1, 2, 3, 4 .. as 0, -1, 1, -2, 2 ..
func (r *reader) signed() int64 {
	n := r.number()
	if n%2 == 1 {
		return ^int64(n / 2)
	}
	return int64(n / 2)
}
