package branch

import (
	"slices"

	"levy/trie"
)

// lead: the byte that all books begin with.
const lead = 0x42

// The marks of a change: what becomes of its key.
const (
	markGone = iota
	markHeld
)

// writer: the bytes up to here.
type writer struct {
	bytes []byte
}

func (w *writer) book(b *Book) {
	names := b.Names()
	w.oneByte(lead)
	w.number(uint64(len(names)))
	for _, name := range names {
		w.text(name)
		w.branch(b.branches[name])
	}
	w.number(uint64(slices.Index(names, b.current)))
}

func (w *writer) branch(one *branch) {
	w.difference(trie.Empty(), one.base)
	undo, redo := one.Depth()
	w.number(uint64(undo))
	w.number(uint64(redo))
	from := one.base
	for _, version := range one.Steps() {
		w.difference(from, version)
		from = version
	}
}

// difference writes the changes that lead from one map to another.
func (w *writer) difference(from, to *trie.Map) {
	changes := slices.Collect(trie.Diff(from, to)) // their number stands ahead of them
	w.number(uint64(len(changes)))
	for _, c := range changes {
		w.number(uint64(c.Id))
		if !c.Has {
			w.number(markGone)
			continue
		}
		w.number(markHeld)
		w.signed(int64(c.Now.Kind))
		w.signed(c.Now.Num)
	}
}

func (w *writer) oneByte(b byte) { w.bytes = append(w.bytes, b) }

func (w *writer) text(s string) {
	w.number(uint64(len(s)))
	w.bytes = append(w.bytes, s...)
}

func (w *writer) number(n uint64) {
	for ; n >= 0x80; n >>= 7 {
		w.oneByte(byte(n) | 0x80)
	}
	w.oneByte(byte(n))
}

// signed writes 0, -1, 1, -2, 2 .. as the numbers 0, 1, 2, 3, 4 ..
func (w *writer) signed(n int64) {
	if n < 0 {
		w.number(2*uint64(^n) + 1) // ^n is -n - 1, which there is for the least int too
	} else {
		w.number(2 * uint64(n))
	}
}
