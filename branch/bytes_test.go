package branch_test

import (
	"bytes"
	"fmt"
	"math"
	"slices"
	"strings"
	"testing"

	"levy/api"
	"levy/branch"
	"levy/trie"
)

// mainHex: how a book of main alone begins, up to its base.
const mainHex = "42 01 04 6D61696E "

// puts asks for a book's bytes, and for the book of these.
func puts(t *testing.T, what string, p *pair, want []byte) {
	t.Helper()
	if got := p.book.Put(); !bytes.Equal(got, want) {
		t.Fatalf("%s: Put % X, want % X", what, got, want)
	}
	gets(t, what, want, p.model)
}

// gets asks for the book of some bytes.
func gets(t *testing.T, what string, data []byte, want model) {
	t.Helper()
	b, e := branch.Get(data)
	if e != api.OK || b == nil {
		t.Fatalf("%s: Get(% X): error %d", what, data, int(e))
	}
	looksAs(t, what, b, want)
	same(t, what, b, data)
}

func refused(t *testing.T, what string, data []byte) {
	t.Helper()
	if b, e := branch.Get(data); b != nil || e != api.ErrBranchForm {
		t.Errorf("%s: Get(% X): %t, error %d", what, data, b != nil, int(e))
	}
}

// taken asks that Get takes bytes, whatever they tell: so what is refused beside them is so for its own fault.
func taken(t *testing.T, what string, data []byte) {
	t.Helper()
	want, ok := modelGet(data)
	if !ok {
		t.Fatalf("%s: the model refuses % X", what, data)
	}
	gets(t, what, data, want)
}

func TestP12Example2(t *testing.T) {
	p := newPair(held{})
	puts(t, "New", p, raw("42 01 04 6D 61 69 6E 00 00 00 00 00"))
	if got := branch.New(nil).Put(); !bytes.Equal(got, raw("42 01 04 6D 61 69 6E 00 00 00 00 00")) {
		t.Errorf("New(nil): % X", got)
	}
	must(t, p.change(t, held{300: cents(5)}))
	puts(t, "Change", p, raw("42 01 04 6D 61 69 6E 00 01 00 00 01 AC 02 01 02 0A 00"))
}

func TestP12_9Keys(t *testing.T) {
	for id, h := range map[uint32]string{
		0: "00", 1: "01", 5: "05", 127: "7F", 128: "8001", 129: "8101", 255: "FF01", 300: "AC02", 1<<14 - 1: "FF7F", 1 << 14: "808001", 1<<21 - 1: "FFFF7F", 1 << 21: "80808001",
		1<<28 - 1: "FFFFFF7F", 1 << 28: "8080808001", 1 << 31: "8080808008", math.MaxUint32: "FFFFFFFF0F",
	} {
		puts(t, "a key", newPair(held{id: cents(5)}), raw(mainHex, "01", h, "01 02 0A 00 00 00 00"))
	}
}

func TestP12_9Signed(t *testing.T) {
	for n, h := range map[int64]string{
		0: "00", -1: "01", 1: "02", -2: "03", 2: "04", 63: "7E", -64: "7F", 64: "8001", -65: "8101", 8191: "FE7F", -8192: "FF7F", 8192: "808001",
		1<<55 - 1: "FEFFFFFFFFFFFF7F", -1 << 55: "FFFFFFFFFFFFFF7F", 1 << 55: "808080808080808001", 1<<62 - 1: "FEFFFFFFFFFFFFFF7F", -1 << 62: "FFFFFFFFFFFFFFFF7F", 1 << 62: "80808080808080808001",
		-1<<62 - 1: "81808080808080808001", math.MaxInt64: "FEFFFFFFFFFFFFFFFF01", math.MinInt64: "FFFFFFFFFFFFFFFFFF01", math.MinInt64 + 1: "FDFFFFFFFFFFFFFFFF01",
	} {
		puts(t, "Num", newPair(held{5: {Kind: 1, Num: n}}), raw(mainHex, "01 05 01 02", h, "00 00 00 00"))
		puts(t, "Kind", newPair(held{5: {Kind: int(n), Num: 3}}), raw(mainHex, "01 05 01", h, "06 00 00 00 00"))
	}
}

func TestP12_10Differences(t *testing.T) {
	p := newPair(held{1: cents(1), 3: cents(1), 5: cents(1)})
	must(t, p.change(t, held{1: cents(2), 3: cents(1), 4: {}}), p.change(t, held{}), p.change(t, held{2: {Kind: 7, Num: -1}}), p.change(t, held{2: {Kind: 7, Num: -1}}))
	puts(t, "gone, new, another value, the same", p, raw(mainHex, "03 01010202 03010202 05010202", "04 00", "00", "03 01010204 04010000 0500", "03 0100 0300 0400", "01 02010E01", "00", "00"))
}

// The order is that of trie.Diff, which goes by the keys as numbers, whatever their bytes are.
func TestP12_10Order(t *testing.T) {
	p := newPair(held{0x50000000: cents(1), 300: cents(1), 2: cents(1), math.MaxUint32: cents(1)})
	must(t, p.change(t, held{299: cents(1), 128: cents(1)}))
	puts(t, "rising", p, raw(mainHex, "04 02010202 AC02010202 8080808005010202 FFFFFFFF0F010202", "01 00 00", "06 0200 8001010202 AB02010202 AC0200 808080800500 FFFFFFFF0F00", "00"))
}

func TestP12_11Put(t *testing.T) {
	p := newPair(at1(1))
	must(t, p.change(t, at1(2)), p.change(t, at1(3)), p.undo(t))
	puts(t, "one to undo, one to redo", p, raw(mainHex, "01 01010202", "01 01", "00", "01 01010204", "01 01010206", "00"))
	must(t, p.forget(t, 1))
	puts(t, "the oldest isn't the base", p, raw(mainHex, "01 01010202", "00 01", "01 01010204", "01 01010206", "00"))
	must(t, p.fork(t, "x1"), p.fork(t, "b"))
	mine := "04 6D61696E 01 01010202 00 01 01 01010204 01 01010206"
	fresh := "01 01010204 00 00 00"
	puts(t, "three branches", p, raw("42 03", "01 62", fresh, mine, "02 7831", fresh, "01"))
	must(t, p.swap(t, "x1"), p.change(t, held{}))
	puts(t, "the last is current", p, raw("42 03", "01 62", fresh, mine, "02 7831 01 01010204 01 00 00 01 0100", "02"))
	must(t, p.swap(t, "b"), p.remove(t, "x1"))
	puts(t, "the first is current", p, raw("42 02", "01 62", fresh, mine, "00"))
}

func TestP12_11Most(t *testing.T) {
	p := newPair(held{})
	for n := range api.MaxHistory {
		must(t, p.change(t, at1(int64(n))))
	}
	puts(t, "the most to undo", p, p.model.bytes())
	for n := range api.MaxHistory {
		must(t, p.undo(t))
		puts(t, fmt.Sprint("undone: ", n+1), p, p.model.bytes())
	}
	for _, name := range []string{"a", "aaaaaaaa", "z", "zzzzzzz9", "n"} {
		must(t, p.fork(t, name), p.swap(t, name))
		for n := range api.MaxHistory {
			must(t, p.change(t, held{1: cents(int64(n)), 300: {}}))
		}
	}
	puts(t, "six branches of the most versions", p, p.model.bytes())
	p = rich(t)
	puts(t, "rich", p, p.model.bytes())
}

func TestP12_11PutIsNewMemory(t *testing.T) {
	p := rich(t)
	want := p.model.bytes()
	a, b := p.book.Put(), p.book.Put()
	all := a[:cap(a)]
	for i := range all {
		all[i] = 0xEE
	}
	_ = append(a, 1, 2, 3)
	if !bytes.Equal(b, want) || !bytes.Equal(p.book.Put(), want) {
		t.Error("an answer was written into, and another one is touched")
	}
	p.alike(t, "behind scribbles")
}

// The bytes that are handed in are neither changed nor kept, nor the room behind them.
func TestP12_12DataIsNotKept(t *testing.T) {
	want := rich(t).model
	room := append(want.bytes(), raw("00 01 FF 42")...)
	data := room[:len(room)-4]
	ahead := bytes.Clone(room)
	b, e := branch.Get(data)
	errnoIs(t, "Get", e, api.OK)
	if !bytes.Equal(room, ahead) {
		t.Error("the bytes are changed")
	}
	for i := range room {
		room[i] = 'q'
	}
	looksAs(t, "behind scribbles", b, want)
	same(t, "behind scribbles", b, want.bytes())
}

func TestP12_12EndsTooEarlyOrTooLate(t *testing.T) {
	for _, data := range [][]byte{branch.New(nil).Put(), rich(t).book.Put()} {
		for n := range data {
			refused(t, "too early", data[:n])
		}
		for b := range 256 {
			refused(t, "one byte more", append(bytes.Clone(data), byte(b)))
		}
		refused(t, "the book twice", append(bytes.Clone(data), data...))
		taken(t, "whole", data)
	}
	refused(t, "nil", nil)
	refused(t, "none", []byte{})
}

func TestP12_12FirstByte(t *testing.T) {
	for b := range 256 {
		data := branch.New(nil).Put()
		data[0] = byte(b)
		if b == 0x42 {
			taken(t, "the first byte", data)
		} else {
			refused(t, "the first byte", data)
		}
	}
}

// long: a number of one group, below 128, written with groups of 0 behind it.
func long(b byte, more int) []byte {
	l := append([]byte{b | 0x80}, bytes.Repeat([]byte{0x80}, more)...)
	l[len(l)-1] &= 0x7f
	return l
}

// At each number of a book, a group too much: the number is the same one, but it isn't written just so.
func TestP12_12GroupTooMuch(t *testing.T) {
	h := mainHex + "01 05 01 02 0A 01 01 01 05 00 00 01 06 01 03 07 00"
	data := raw(h)
	taken(t, "each number in one byte", data)
	for at := range data {
		if at == 0 || at >= 3 && at < 7 { // the first byte, and the name's
			continue
		}
		for more := 1; more <= 12; more++ {
			refused(t, fmt.Sprintf("the number at %d", at), slices.Concat(data[:at], long(data[at], more), data[at+1:]))
		}
	}
}

func TestP12_12NumbersTooGreat(t *testing.T) {
	lead := mainHex + "01 05 01 02 "
	end := "00 00 00 00"
	taken(t, "64 bits", raw(lead, "FFFFFFFFFFFFFFFFFF01", end))
	taken(t, "the least of ten groups", raw(lead, "80808080808080808001", end))
	for _, h := range []string{"FFFFFFFFFFFFFFFFFF02", "FFFFFFFFFFFFFFFFFF03", "80808080808080808002", "FFFFFFFFFFFFFFFFFF7F", "8080808080808080807F", "FFFFFFFFFFFFFFFFFF00", "80808080808080808000", "8080808080808080808001", "FFFFFFFFFFFFFFFFFF8001", "FFFFFFFFFFFFFFFFFF8101", "8080808080808080808000", "FFFFFFFFFFFFFFFFFFFFFF01"} {
		refused(t, "more than 64 bits as Num", raw(lead, h, end))
		refused(t, "more than 64 bits as Kind", raw(mainHex, "01 05 01", h, "0A", end))
		refused(t, "more than 64 bits as a key", raw(mainHex, "01", h, "01 02 0A", end))
	}
}

func TestP12_12Keys(t *testing.T) {
	end := "01 02 0A 00 00 00 00"
	taken(t, "the greatest key", raw(mainHex, "01 FFFFFFFF0F", end))
	for _, h := range []string{"8080808010", "8580808010", "FFFFFFFF1F", "FFFFFFFF7F", "808080808001", "858080808001", "FFFFFFFFFFFFFFFFFF01", "85808080808080808001"} {
		refused(t, "a key above 32 bits", raw(mainHex, "01", h, end))
	}
	taken(t, "rising keys", raw(mainHex, "02 05 01 02 02 06 01 02 04 00 00 00 00"))
	taken(t, "rising up to the greatest", raw(mainHex, "02 FEFFFFFF0F 01 02 02 FFFFFFFF0F 01 02 04 00 00 00 00"))
	refused(t, "a key twice", raw(mainHex, "02 05 01 02 02 05 01 02 04 00 00 00 00"))
	refused(t, "the greatest key twice", raw(mainHex, "02 FFFFFFFF0F 01 02 02 FFFFFFFF0F 01 02 04 00 00 00 00"))
	refused(t, "a key behind the greatest", raw(mainHex, "02 FFFFFFFF0F 01 02 02 8080808010 01 02 04 00 00 00 00"))
	refused(t, "0 behind the greatest", raw(mainHex, "02 FFFFFFFF0F 01 02 02 00 01 02 04 00 00 00 00"))
	refused(t, "falling keys", raw(mainHex, "02 06 01 02 04 05 01 02 02 00 00 00 00"))
	refused(t, "a key laid in and taken out", raw(mainHex, "02 05 01 02 02 05 00 00 00 00 00"))
	refused(t, "0 twice", raw(mainHex, "02 00 01 02 02 00 01 02 04 00 00 00 00"))
	taken(t, "keys of a later step", raw(mainHex, "01 05 01 02 02 00 00 02 05 00 06 01 02 04 00"))
	refused(t, "falling keys of a later step", raw(mainHex, "01 05 01 02 02 00 00 02 06 01 02 04 05 00 00"))
	taken(t, "keys begin anew with each step", raw(mainHex, "01 09 01 02 02 01 00 01 05 01 02 02 01 01 01 02 02 00"))
}

func TestP12_12Marks(t *testing.T) {
	for mark := 2; mark < 128; mark++ {
		h := fmt.Sprintf("%02X", mark)
		refused(t, "a mark", raw(mainHex, "01 05 "+h+" 02 0A 00 00 00 00"))
		refused(t, "a mark, nothing behind it", raw(mainHex, "01 05 "+h+" 00 00 00 00"))
		refused(t, "a mark of a later step", raw(mainHex, "01 05 01 02 0A 00 00 01 05 "+h+" 00"))
	}
	for _, h := range []string{"8002", "8102", "FFFFFFFFFFFFFFFFFF01", "81808080808080808001"} {
		refused(t, "a long mark", raw(mainHex, "01 05 "+h+" 02 0A 00 00 00 00"))
	}
}

func TestP12_12ChangesThatChangeNothing(t *testing.T) {
	base := mainHex + "01 05 01 02 0A "
	taken(t, "gone", raw(base, "00 00 01 05 00 00"))
	refused(t, "gone, where there is none", raw(base, "00 00 01 06 00 00"))
	refused(t, "gone from the empty map", raw(mainHex, "01 05 00 00 00 00 00"))
	refused(t, "gone, where it is gone already", raw(base, "00 01 01 05 00 01 05 00 00"))
	refused(t, "the value that is there", raw(base, "00 00 01 05 01 02 0A 00"))
	refused(t, "the value that is there, in a later step", raw(base, "01 00 01 05 01 02 0C 01 05 01 02 0C 00"))
	taken(t, "another Num", raw(base, "00 00 01 05 01 02 0C 00"))
	taken(t, "another Kind", raw(base, "00 00 01 05 01 04 0A 00"))
	taken(t, "the value of ahead again", raw(base, "01 00 01 05 01 02 0C 01 05 01 02 0A 00"))
	taken(t, "the zero value", raw(base, "00 00 01 06 01 00 00 00"))
	refused(t, "one that changes, and one that doesn't", raw(base, "00 00 02 05 00 06 00 00"))
	refused(t, "one that doesn't, and one that changes", raw(base, "00 00 02 04 00 05 00 00"))
}

func TestP12_12Counts(t *testing.T) {
	one := func(name string) string { return fmt.Sprintf("%02X %X 00 00 00 00 ", len(name), name) }
	row := func(count int, names ...string) []byte {
		h := fmt.Sprintf("42 %02X ", count)
		for _, name := range names {
			h += one(name)
		}
		return raw(h, "00")
	}
	taken(t, "six", row(6, "a", "b", "c", "d", "e", "main"))
	refused(t, "seven", row(7, "a", "b", "c", "d", "e", "f", "main"))
	refused(t, "seven, main among the first", row(7, "a", "b", "main", "n", "o", "p", "q"))
	refused(t, "none", row(0))
	refused(t, "none, and a branch", row(0, "main"))
	refused(t, "two said, one there", row(2, "main"))
	refused(t, "one said, two there", row(1, "main", "n"))
	refused(t, "no main", row(1, "a"))
	refused(t, "no main of six", row(6, "a", "b", "c", "mai", "main0", "n"))
	taken(t, "main the last", row(2, "a", "main"))
	taken(t, "main the first", row(2, "main", "n"))
	refused(t, "names that fall", row(2, "main", "a"))
	refused(t, "main twice", row(2, "main", "main"))
	refused(t, "another one twice", row(3, "a", "a", "main"))
	refused(t, "names that fall behind", row(4, "a", "main", "z", "y"))
	for _, name := range []string{"", "A", "9a", "a_b", "abcdefghi", "a-", "Main", "\x00", "a\xff", "mainmainm"} {
		l := []string{name, "main"}
		slices.Sort(l)
		refused(t, fmt.Sprintf("the name %q", name), row(2, l...))
		refused(t, fmt.Sprintf("the name %q alone", name), row(1, name))
	}
	for _, h := range []string{"8001", "FF7F", "FFFFFFFFFFFFFFFFFF01", "81808080808080808001", "8180808010"} {
		refused(t, "many branches", raw("42", h, "04 6D61696E 00 00 00 00 00"))
		refused(t, "a long name", raw("42 01", h, strings.Repeat("61", 200), "00 00 00 00 00"))
		refused(t, "many changes", raw(mainHex, h, "00 00 00 00"))
		refused(t, "many changes, some there", raw(mainHex, h, "05 01 02 02 06 01 02 02 00 00 00 00"))
		refused(t, "many to undo", raw(mainHex, "00", h, "00 00 00"))
		refused(t, "many to redo", raw(mainHex, "00 00", h, "00 00"))
		refused(t, "many to undo, few to redo", raw(mainHex, "00", h, "01 00 00 00"))
		refused(t, "many of both", raw(mainHex, "00", h, h, strings.Repeat("00", 300)))
		refused(t, "a far place", raw(mainHex, "00 00 00 00", h))
	}
}

func TestP12_12Versions(t *testing.T) {
	for undo := range 40 {
		for redo := range 40 {
			data := raw(mainHex, "00", fmt.Sprintf("%02X %02X", undo, redo), strings.Repeat("00", undo+redo+1), "00")
			if undo+redo <= api.MaxHistory {
				taken(t, "versions", data)
			} else {
				refused(t, "too many versions", data)
			}
		}
	}
	for _, h := range []string{"FFFFFFFFFFFFFFFFFF01 01", "01 FFFFFFFFFFFFFFFFFF01", "80808080808080808001 80808080808080808001", "FFFFFFFFFFFFFFFFFF01 21", "E0FFFFFFFFFFFFFFFF01 20"} { // numbers whose sum wraps round
		for n := range 40 {
			refused(t, "a sum that wraps round", raw(mainHex, "00", h, strings.Repeat("00", n)))
		}
	}
}

func TestP12_12Place(t *testing.T) {
	data := rich(t).model.bytes()
	last := len(data) - 1
	for place := range 128 {
		data[last] = byte(place)
		if place < 6 {
			taken(t, "a place", data)
		} else {
			refused(t, "a place that isn't there", data)
		}
	}
	refused(t, "one branch, the second current", raw(mainHex, "00 00 00 00 01"))
}

// Neither room nor time may hang on what the numbers alone say.
func TestP12_12LongListsOfLittle(t *testing.T) {
	zeros := strings.Repeat("00", 1000)
	for _, h := range []string{"FFFFFFFFFFFFFFFFFF01", "FFFFFFFFFFFFFFFF7F", "FFFFFFFF07"} {
		refused(t, "changes of zeros", raw(mainHex, h, zeros))
		refused(t, "changes of nothing", raw(mainHex, h))
		refused(t, "changes of a version", raw(mainHex, "00 20 00", h, zeros))
	}
	m := trie.Empty()
	for id := range uint32(50000) {
		m = m.Put(id*7, cents(int64(id)))
	}
	b := branch.New(m)
	for range api.MaxHistory {
		m = m.Drop(7).Put(7, cents(int64(m.Len()))).Put(14, cents(0))
		must(t, b.Change(m))
	}
	data := b.Put()
	c, e := branch.Get(data)
	errnoIs(t, "a great book", e, api.OK)
	same(t, "a great book", c, data)
	if len(data) > 600000 {
		t.Errorf("%d bytes: versions aren't written as what differs", len(data))
	}
}
