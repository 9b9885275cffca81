package desk_test

import (
	"bytes"
	"encoding/binary"
	"fmt"
	"maps"
	"regexp"
	"slices"

	"levy/api"
	"levy/trie"
)

// cells: inputs, by cell. Never changed once they are made.
type cells map[uint32]api.Value

func (c cells) with(cell uint32, v api.Value) cells {
	c = maps.Clone(c)
	c[cell] = v
	return c
}

func (c cells) without(l ...uint32) cells {
	c = maps.Clone(c)
	for _, cell := range l {
		delete(c, cell)
	}
	return c
}

func (c cells) keys() []uint32 { return slices.Sorted(maps.Keys(c)) }

func (c cells) trie() *trie.Map {
	m := trie.Empty()
	for cell, v := range c {
		m = m.Put(cell, v)
	}
	return m
}

func cellsOf(m *trie.Map) cells { return maps.Collect(m.All()) }

// differing: the cells at which inputs differ, rising.
func differing(a, b cells) []uint32 {
	both := cells{}
	maps.Copy(both, a)
	maps.Copy(both, b)
	return slices.DeleteFunc(both.keys(), func(cell uint32) bool {
		v, had := a[cell]
		w, has := b[cell]
		return v == w && had == has
	})
}

// book: branches as chapters 11 and 12 have them, in plain lists and maps.
type book struct {
	branches map[string]shoot
	current  string
}

// shoot: a branch: its base, all its versions, and which one is the present one.
type shoot struct {
	base     cells
	versions []cells
	now      int
}

func newBook() *book {
	return &book{map[string]shoot{"main": {cells{}, []cells{{}}, 0}}, "main"}
}

func (b *book) clone() *book { return &book{maps.Clone(b.branches), b.current} }

func (b *book) names() []string { return slices.Sorted(maps.Keys(b.branches)) }

func (b *book) inputs() cells { return b.of(b.current) }

func (b *book) of(name string) cells {
	s := b.branches[name]
	return s.versions[s.now]
}

var branchName = regexp.MustCompile(`^[a-z][a-z0-9]{0,7}$`)

// do does what a record says; in are the inputs of a change.
func (b *book) do(kind byte, in cells, n int, name string) api.Errno {
	s, known := b.branches[b.current], false
	_, known = b.branches[name]
	switch {
	case kind == 1 && s.now == 32:
		return 110
	case kind == 2 && s.now == 0:
		return 111
	case kind == 3 && s.now == len(s.versions)-1:
		return 112
	case kind == 4 && (n < 0 || n > s.now):
		return 113
	case kind == 5 && !branchName.MatchString(name):
		return 120
	case kind == 5 && known:
		return 121
	case kind == 5 && len(b.branches) == 6:
		return 123
	case kind >= 6 && !known:
		return 122
	case kind == 7 && name == "main":
		return 124
	case kind == 7 && name == b.current:
		return 125
	}
	switch kind {
	case 1:
		s = shoot{s.base, append(slices.Clone(s.versions[:s.now+1]), in), s.now + 1}
	case 2:
		s.now--
	case 3:
		s.now++
	case 4:
		s = shoot{s.base, s.versions[n:], s.now - n}
	}
	b.branches[b.current] = s
	switch kind {
	case 5:
		b.branches[name] = shoot{b.inputs(), []cells{b.inputs()}, 0}
	case 6:
		b.current = name
	case 7:
		delete(b.branches, name)
	}
	return 0
}

// state tells all that a book holds.
func (b *book) state() string {
	s := "at " + b.current
	for _, name := range b.names() {
		one := b.branches[name]
		s += fmt.Sprintf("\n%s: base %v, version %d of %v", name, one.base, one.now, one.versions)
	}
	return s
}

// bytes writes a book by chapter 12.
func (b *book) bytes() []byte {
	w := []byte{0x42}
	number := func(n int) { w = binary.AppendUvarint(w, uint64(n)) }
	difference := func(from, to cells) {
		l := differing(from, to)
		number(len(l))
		for _, cell := range l {
			number(int(cell))
			v, has := to[cell]
			if !has {
				number(0)
				continue
			}
			number(1)
			w = binary.AppendVarint(w, int64(v.Kind))
			w = binary.AppendVarint(w, v.Num)
		}
	}
	number(len(b.branches))
	for _, name := range b.names() {
		s := b.branches[name]
		number(len(name))
		w = append(w, name...)
		difference(cells{}, s.base)
		number(s.now)
		number(len(s.versions) - 1 - s.now)
		from := s.base
		for _, v := range s.versions {
			difference(from, v)
			from = v
		}
	}
	number(slices.Index(b.names(), b.current))
	return w
}

// bookIn reads a book that bytes says.
func bookIn(data []byte) *book {
	r := bytes.NewReader(data[1:])
	number := func() int {
		n, _ := binary.ReadUvarint(r)
		return int(n)
	}
	signed := func() int64 {
		n, _ := binary.ReadVarint(r)
		return n
	}
	difference := func(from cells) cells {
		for range number() {
			cell := uint32(number())
			if number() == 0 {
				from = from.without(cell)
			} else {
				kind := signed()
				from = from.with(cell, val(int(kind), signed()))
			}
		}
		return from
	}
	b := &book{branches: map[string]shoot{}}
	for range number() {
		name := make([]byte, number())
		r.Read(name)
		s := shoot{base: difference(cells{})}
		s.now = number()
		many, from := 1+s.now+number(), s.base
		for range many {
			from = difference(from)
			s.versions = append(s.versions, from)
		}
		b.branches[string(name)] = s
	}
	b.current = b.names()[number()]
	return b
}

// changeBytes writes the body of a change's record.
func changeBytes(from, to cells) []byte {
	l := differing(from, to)
	b := binary.LittleEndian.AppendUint16(nil, uint16(len(l)))
	for _, cell := range l {
		b = item(b, cell, to[cell])
	}
	return b
}

// item writes a cell and its value.
func item(b []byte, cell uint32, v api.Value) []byte {
	b = append(binary.LittleEndian.AppendUint32(b, cell), byte(v.Kind))
	return binary.LittleEndian.AppendUint64(b, uint64(v.Num))
}

// record: a record of the journal, of numbers and names.
func record(kind byte, in cells, from cells, n int, name string) api.Record {
	r := api.Record{Kind: kind}
	switch kind {
	case 1:
		r.Body = changeBytes(from, in)
	case 4:
		r.Body = binary.LittleEndian.AppendUint16(nil, uint16(n))
	case 5, 6, 7:
		r.Body = []byte(name)
	}
	return r
}
