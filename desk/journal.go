package desk

import (
	"slices"

	"levy/api"
	"levy/branch"
	"levy/trie"
)

// The kinds of the journal's records.
const (
	recordChange = iota + 1
	recordUndo
	recordRedo
	recordForget
	recordFork
	recordSwitch
	recordDelete
)

// How many bytes the journal has for a number of things, a cell, a value's kind and its number.
const (
	countBytes = 2
	cellBytes  = 4
	kindBytes  = 1
	numBytes   = 8
	itemBytes  = cellBytes + kindBytes + numBytes
)

// step is what is done to a book, by a command or by a record that is replayed. Which fields count, kind tells.
type step struct {
	kind byte
	in   *trie.Map // of a change: the inputs behind it
	n    int       // of forget
	name string    // of fork, switch and delete
}

// on does a step to a book.
func (s step) on(b *branch.Book) api.Errno {
	switch s.kind {
	case recordChange:
		return b.Change(s.in)
	case recordUndo:
		return b.Undo()
	case recordRedo:
		return b.Redo()
	case recordForget:
		return b.Forget(s.n)
	case recordFork:
		return b.Fork(s.name)
	case recordSwitch:
		return b.Switch(s.name)
	}
	return b.Delete(s.name)
}

// record tells a step that a book took, as the journal has it; before are the inputs ahead of it.
func (s step) record(before *trie.Map) api.Record {
	r := api.Record{Kind: s.kind}
	switch s.kind {
	case recordChange:
		r.Body = changeBody(before, s.in)
	case recordForget:
		r.Body = appendNumber(nil, uint64(s.n), countBytes)
	case recordFork, recordSwitch, recordDelete:
		r.Body = []byte(s.name)
	}
	return r
}

// changeBody writes what differs between inputs.
func changeBody(before, behind *trie.Map) []byte {
	changes := slices.Collect(trie.Diff(before, behind))
	b := appendNumber(nil, uint64(len(changes)), countBytes)
	for _, c := range changes {
		b = appendNumber(b, uint64(c.Id), cellBytes)
		b = appendNumber(b, uint64(c.Now.Kind), kindBytes) // what isn't there any more has a zero Now: a Blank
		b = appendNumber(b, uint64(c.Now.Num), numBytes)
	}
	return b
}

// replay makes a book of what a journal holds; false, if that can't be.
func (f *form) replay(summary []byte, records []api.Record) (*branch.Book, bool) {
	b, ok := f.bookOf(summary)
	if !ok {
		return nil, false
	}
	for _, r := range records {
		s, ok := f.stepOf(r, b.Inputs())
		if !ok || s.on(b) != api.OK {
			return nil, false
		}
	}
	return b, true
}

// bookOf reads a summary.
func (f *form) bookOf(summary []byte) (*branch.Book, bool) {
	if len(summary) == 0 {
		return branch.New(nil), true
	}
	b, errno := branch.Get(summary)
	return b, errno == api.OK && f.fitsAll(b)
}

// fitsAll tells whether each version that a book holds fits the pack.
func (f *form) fitsAll(b *branch.Book) bool {
	b = b.Clone() // it is led through all its versions
	for _, name := range b.Names() {
		b.Switch(name)
		for b.Undo() == api.OK {
		}
		base, _ := b.Base(name)
		ok := f.fits(base) && f.fits(b.Inputs())
		for ok && b.Redo() == api.OK {
			ok = f.fits(b.Inputs())
		}
		if !ok {
			return false
		}
	}
	return true
}

func (f *form) fits(in *trie.Map) bool { return f.eval.Fits(in) == api.OK }

// stepOf reads a record; now are the inputs that it finds.
func (f *form) stepOf(r api.Record, now *trie.Map) (step, bool) {
	s, ok := step{kind: r.Kind}, true
	switch r.Kind {
	case recordChange:
		s.in, ok = f.changed(now, r.Body)
	case recordUndo, recordRedo:
		ok = len(r.Body) == 0
	case recordForget:
		ok = len(r.Body) == countBytes
		s.n = int(numberOf(r.Body))
	case recordFork, recordSwitch, recordDelete:
		s.name = string(r.Body)
	default:
		ok = false
	}
	return s, ok
}

// changed reads what a change makes of inputs.
func (f *form) changed(in *trie.Map, body []byte) (*trie.Map, bool) {
	if len(body) < countBytes || len(body)-countBytes != itemBytes*int(numberOf(body[:countBytes])) {
		return nil, false
	}
	least := uint32(0)
	for item := range slices.Chunk(body[countBytes:], itemBytes) {
		cell, v := uint32(numberOf(item[:cellBytes])), valueOf(item[cellBytes:])
		if cell < least || int(cell) >= f.graph.Cells() || v.Kind == api.Blank && v.Num != 0 {
			return nil, false
		}
		if v.Kind == api.Blank {
			in = in.Drop(cell)
		} else {
			in = in.Put(cell, v)
		}
		least = cell + 1
	}
	return in, f.fits(in)
}

func valueOf(b []byte) api.Value {
	return api.Value{Kind: int(b[0]), Num: int64(numberOf(b[kindBytes:]))}
}

// appendNumber writes a number in so many bytes, the lowest first.
func appendNumber(b []byte, n uint64, size int) []byte {
	for range size {
		b = append(b, byte(n))
		n >>= 8
	}
	return b
}

// numberOf reads a number from all of some bytes, the lowest first.
func numberOf(b []byte) uint64 {
	n := uint64(0)
	for _, one := range slices.Backward(b) {
		n = n<<8 | uint64(one)
	}
	return n
}
