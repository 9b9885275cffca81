package branch_test

import (
	"bytes"
	"encoding/binary"
	"maps"
	"math"
	"regexp"
	"slices"

	"levy/api"
)

// What the chapter says of a book, told once more in another way: branches as plain lists, bytes by the library's numbers, and a reading that takes anything that can be told and is held against the writing.

// line: a branch: its base, its versions from the oldest on, and how many are below the present one. Its lists are never changed in place.
type line struct {
	base  held
	all   []held
	below int
}

func (l line) now() held { return l.all[l.below] }

type model struct {
	lines   map[string]line
	current string
}

func newModel(c held) model {
	return model{map[string]line{"main": {c, []held{c}, 0}}, "main"}
}

func (m *model) clone() model { return model{maps.Clone(m.lines), m.current} }

func (m *model) names() []string { return slices.Sorted(maps.Keys(m.lines)) }

func (m *model) has(name string) bool {
	_, ok := m.lines[name]
	return ok
}

var nameForm = regexp.MustCompile(`\A[a-z][a-z0-9]{0,7}\z`)

func (m *model) fork(name string) api.Errno {
	switch {
	case !nameForm.MatchString(name):
		return 120
	case m.has(name):
		return 121
	case len(m.lines) == 6:
		return 123
	}
	c := m.lines[m.current].now()
	m.lines[name] = line{c, []held{c}, 0}
	return 0
}

func (m *model) swap(name string) api.Errno {
	if !m.has(name) {
		return 122
	}
	m.current = name
	return 0
}

func (m *model) remove(name string) api.Errno {
	switch {
	case !m.has(name):
		return 122
	case name == "main":
		return 124
	case name == m.current:
		return 125
	}
	delete(m.lines, name)
	return 0
}

func (m *model) change(c held) api.Errno {
	l := m.lines[m.current]
	if l.below == 32 {
		return 110
	}
	l.below++
	l.all = append(slices.Clone(l.all[:l.below]), c)
	m.lines[m.current] = l
	return 0
}

func (m *model) undo() api.Errno {
	l := m.lines[m.current]
	if l.below == 0 {
		return 111
	}
	l.below--
	m.lines[m.current] = l
	return 0
}

func (m *model) redo() api.Errno {
	l := m.lines[m.current]
	if l.below == len(l.all)-1 {
		return 112
	}
	l.below++
	m.lines[m.current] = l
	return 0
}

func (m *model) forget(n int) api.Errno {
	l := m.lines[m.current]
	if n < 0 || n > l.below {
		return 113
	}
	l.below -= n
	l.all = l.all[n:]
	m.lines[m.current] = l
	return 0
}

// bytes: what Put is to tell.
func (m *model) bytes() []byte {
	names := m.names()
	b := binary.AppendUvarint([]byte{'B'}, uint64(len(names)))
	for _, name := range names {
		l := m.lines[name]
		b = append(binary.AppendUvarint(b, uint64(len(name))), name...)
		b = step(b, held{}, l.base)
		b = binary.AppendUvarint(b, uint64(l.below))
		b = binary.AppendUvarint(b, uint64(len(l.all)-1-l.below))
		from := l.base
		for _, c := range l.all {
			b = step(b, from, c)
			from = c
		}
	}
	return binary.AppendUvarint(b, uint64(slices.Index(names, m.current)))
}

// step writes the difference from one to another behind b.
func step(b []byte, from, to held) []byte {
	all := maps.Clone(from)
	maps.Copy(all, to)
	count := 0
	var l []byte
	for _, id := range slices.Sorted(maps.Keys(all)) {
		x, had := from[id]
		y, has := to[id]
		switch {
		case had && has && x == y:
			continue
		case has:
			l = append(binary.AppendUvarint(l, uint64(id)), 1)
			l = binary.AppendVarint(binary.AppendVarint(l, int64(y.Kind)), y.Num)
		default:
			l = append(binary.AppendUvarint(l, uint64(id)), 0)
		}
		count++
	}
	return append(binary.AppendUvarint(b, uint64(count)), l...)
}

// loose reads bytes of which it asks little; wrong: they tell no book at all.
type loose struct {
	left  []byte
	wrong bool
}

func (r *loose) number(most uint64) uint64 {
	n, size := binary.Uvarint(r.left)
	if size <= 0 || n > most {
		r.left, r.wrong = nil, true
		return 0
	}
	r.left = r.left[size:]
	return n
}

func (r *loose) signed() int64 {
	n, size := binary.Varint(r.left)
	if size <= 0 {
		r.left, r.wrong = nil, true
		return 0
	}
	r.left = r.left[size:]
	return n
}

func (r *loose) name() string {
	n := int(r.number(8))
	if n > len(r.left) {
		r.left, r.wrong = nil, true
		return ""
	}
	s := string(r.left[:n])
	r.left = r.left[n:]
	r.wrong = r.wrong || !nameForm.MatchString(s)
	return s
}

func (r *loose) step(from held) held {
	c := maps.Clone(from)
	for n := r.number(math.MaxUint64); n > 0 && !r.wrong; n-- {
		id := uint32(r.number(math.MaxUint32))
		if r.number(1) == 0 {
			delete(c, id)
			continue
		}
		kind := r.signed()
		c[id] = api.Value{Kind: int(kind), Num: r.signed()}
	}
	return c
}

func (r *loose) line() line {
	l := line{base: r.step(held{})}
	l.below = int(r.number(32))
	above := int(r.number(32))
	r.wrong = r.wrong || l.below+above > 32
	from := l.base
	for range l.below + above + 1 {
		from = r.step(from)
		l.all = append(l.all, from)
	}
	return l
}

// modelGet: the book that Put would write as these bytes, if there is one.
func modelGet(data []byte) (model, bool) {
	if len(data) == 0 {
		return model{}, false
	}
	r := &loose{left: data[1:]}
	m := model{map[string]line{}, ""}
	for range r.number(6) {
		name := r.name()
		m.lines[name] = r.line()
		if r.wrong {
			return model{}, false
		}
	}
	place := r.number(math.MaxUint64)
	if r.wrong || !m.has("main") || place >= uint64(len(m.lines)) {
		return model{}, false
	}
	m.current = m.names()[place]
	return m, bytes.Equal(m.bytes(), data)
}
