package pack_test

import (
	"bytes"
	"math/rand"
	"strings"
	"testing"

	"levy/api"
	"levy/pack"
)

// misreads: bytes behind the four at the beginning, and what is to be told of all of them (the place of ErrPackShort is their number: it isn't written out).
type misreads struct {
	hex   string
	at    int
	errno api.Errno
}

func refuses(t *testing.T, what string, l []misreads) {
	t.Helper()
	for _, m := range l {
		b := raw(lead, m.hex)
		if m.errno == api.ErrPackShort {
			m.at = len(b)
		}
		refused(t, what+" "+m.hex, b, m.at, m.errno)
		asModel(t, what, b)
	}
}

func TestP7_7Head(t *testing.T) {
	refused(t, "nil", nil, 0, api.ErrPackShort)
	refused(t, "nothing", []byte{}, 0, api.ErrPackShort)
	for n, s := range []string{"", "4C", "4C56", "4C5659", lead} {
		refused(t, s, raw(s), n, api.ErrPackShort)
	}
	refused(t, "three others", raw("4C5632"), 3, api.ErrPackShort)
	refused(t, "one other", raw("00"), 1, api.ErrPackShort)
	refused(t, "the example", raw("4C565932"), 0, api.ErrPackForm)
	zero := closedRaw("00000000000000")
	for i := range 4 {
		b := bytes.Clone(zero)
		b[i] ^= 0x20
		refused(t, "another head", closed(b[:11]), 0, api.ErrPackForm)
	}
}

func TestP7_7TooManyBytes(t *testing.T) {
	for _, n := range []int{most + 1, most + 2, 1 << 20} {
		refused(t, "zeros", make([]byte, n), 0, api.ErrPackBound)
	}
	refused(t, "zeros", make([]byte, most), 0, api.ErrPackForm)
	p := sized(most)["the name"]
	b, _ := pack.Put(p)
	gets(t, "as many as may be", b, p)
	refused(t, "one more", append(b, 0), 0, api.ErrPackBound)
	big, _ := modelPut(sized(most + 1)["the name"])
	refused(t, "a pack that is too great", big, 0, api.ErrPackBound)
	p = sized(most - 1)["the name"]
	b, _ = pack.Put(p)
	refused(t, "one more, within the bound", append(b, 0), most-1, api.ErrPackMore)
}

func TestP7_7Numbers(t *testing.T) {
	ff := func(n int) string { return strings.Repeat("FF", n) }
	e0 := func(n int) string { return strings.Repeat("80", n) }
	short, form := api.ErrPackShort, api.ErrPackForm
	refuses(t, "a number", []misreads{
		{"", 0, short}, {"80", 0, short}, {e0(9), 0, short}, {ff(9), 0, short}, {"8000", 4, form}, {"05", 0, short},
		{"00" + "80", 0, short}, {"00" + "8000", 5, form}, {"00" + "818000", 5, form}, {"00" + e0(8) + "00", 5, form}, {"00" + e0(9) + "00", 5, form}, {"00" + ff(9) + "00", 5, form},
		{"00" + e0(10), 5, form}, {"00" + ff(10), 5, form}, {"00" + ff(11), 5, form}, {"00" + e0(10) + "01", 5, form}, {"00" + e0(9) + "81", 5, form}, {"00" + e0(9) + "8100", 5, form},
		{"00" + ff(9) + "02", 5, form}, {"00" + ff(9) + "03", 5, form}, {"00" + e0(9) + "02", 5, form}, {"00" + e0(9) + "7F", 5, form},
		{"00" + ff(9) + "01", 0, short}, {"00" + e0(9) + "01", 0, short}, {"00" + ff(8) + "7F", 0, short},
		{"00" + ff(9), 0, short}, {"00" + ff(8), 0, short}, {"00" + ff(1), 0, short},
	})
	for groups := 2; groups <= 10; groups++ { // the last group 0, which a number of fewer groups would do without
		refuses(t, "a number", []misreads{{"00" + e0(groups-1) + "00" + strings.Repeat("00", 20), 5, form}})
	}
	gets(t, "the greatest number, and the least one of ten groups", closedRaw("00 00 00 01 00 01", ff(9), "01", e0(9), "01", "000000"), api.Pack{Tables: []api.Table{{Bands: []api.Band{{From: -1 << 63, Rate: 1 << 62}}}}})
}

func TestP7_7TextsAndLists(t *testing.T) {
	short, form := api.ErrPackShort, api.ErrPackForm
	refuses(t, "a text", []misreads{
		{"01", 0, short}, {"0141", 0, short}, {"0241", 0, short}, {"05 41414141", 0, short}, {"05 4141414141", 0, short}, {"FF01", 0, short},
		{"FFFFFFFFFFFFFFFFFF01", 0, short}, {"8080808080808080808001", 4, form}, {"FFFFFFFFFFFFFFFF7F 41", 0, short}, {"8080808080808080807F", 4, form}, {"FFFFFFFF0F 41", 0, short}, {"8080808008 41", 0, short},
	})
	refuses(t, "a list", []misreads{
		{"0000", 0, short}, {"0000 01", 0, short}, {"0000 05", 0, short}, {"0000 05 00000000", 0, short}, {"0000 02 8000", 7, form}, {"0000 02 80", 0, short}, {"0000 03 8000", 0, short},
		{"0000 FFFFFFFFFFFFFFFFFF01 8000", 0, short}, {"0000 FFFFFFFFFFFFFFFF7F 8000", 0, short}, {"0000 FFFFFFFF0F 8000", 0, short}, {"0000 8080808008 8000", 0, short},
		{"0000 01 00 02 8000", 9, form}, {"0000 01 00 03 8000", 0, short}, {"0000 01 00 02 0080", 0, short}, {"0000 01 00 02 0141 8000", 11, form},
		{"0000 8000", 6, form}, {"0000 01 00 8000", 8, form}, {"000000 8000", 7, form}, {"00000000 8000", 8, form}, {"0000000000 8000", 9, form}, {"000000000000 8000", 10, form},
		{"000000 01 00 01", 0, short}, {"000000 01 00 02 8000", 10, form}, {"000000 01 00 02 00 8000", 11, form}, {"00000000 02 00 8000", 10, form}, {"00000000 02 8000", 9, form},
	})
	b := closedRaw("0000 01 00 08 00000000") // the last list says as many items as bytes are left, the sum's among them
	if e := asModel(t, "a list that takes the sum's bytes", b); e == api.OK {
		t.Error("a list that takes the sum's bytes is taken")
	}
	refused(t, "a list that says one item more", closedRaw("0000 01 00 09 00000000"), 17, api.ErrPackShort)
}

func TestP7_7Flags(t *testing.T) {
	short, form := api.ErrPackShort, api.ErrPackForm
	var l []misreads
	for b := range 256 {
		h := hexText([]byte{byte(b)})
		if b < 2 {
			l = append(l, misreads{"0000000000 01 00" + h, 0, short}, misreads{"0000000000 01 00 01" + h, 0, short}, misreads{"000000000000 01 00" + h, 0, short}, misreads{"0000000000 01 000000000000 01 00" + h, 0, short})
		} else {
			l = append(l, misreads{"0000000000 01 00" + h, 11, form}, misreads{"0000000000 01 00 01" + h, 12, form}, misreads{"000000000000 01 00" + h, 12, form}, misreads{"0000000000 01 000000000000 01 00" + h, 18, form})
		}
	}
	refuses(t, "a flag", append(l, misreads{"0000000000 01 00", 0, short}, misreads{"0000000000 01 00 00", 0, short}, misreads{"000000000000 01 00", 0, short}))
}

func TestP7_7Expressions(t *testing.T) {
	short, form := api.ErrPackShort, api.ErrPackForm
	lead := "000000000000 01 000000 " // up to a check's expression, at 14
	l := []misreads{
		{lead, 0, short}, {lead + "80", 0, short}, {lead + "8000", 14, form}, {lead + "02", 0, short},
		{lead + "02 01", 0, short}, {lead + "02 01 00", 16, form}, {lead + "02 01 8000", 16, form}, {lead + "02 01 0A", 0, short},
		{lead + "02 02 00", 16, form}, {lead + "02 04 00", 16, form}, {lead + "02 02", 0, short}, {lead + "02 04", 0, short},
		{lead + "02 03 00 02", 16, form}, {lead + "02 03 02 00", 17, form}, {lead + "02 07 02 8001 00", 19, form}, {lead + "02 07 02 00 00", 17, form}, {lead + "02 07 00 00 00", 16, form}, {lead + "02 06 02 00", 17, form},
		{lead + "02 08", 0, short}, {lead + "02 08 00", 16, form}, {lead + "02 08 8000", 16, form}, {lead + "02 08 01", 0, short}, {lead + "02 08 02 00", 0, short}, {lead + "02 08 02 0000", 0, short}, {lead + "02 08 02 0000 00", 0, short},
		{lead + "02 0F 02 02 02 00", 19, form}, {lead + "02 0F 02 02 02 01 0010", 21, form}, {lead + "02 0F 02 02 02 05 0000", 0, short}, {lead + "02 09 00 00", 16, form}, {lead + "02 09 02 00", 17, form},
		{lead + "02 08 01 00 10", 18, form}, {lead + "02 08 02 0000 00 10", 20, form}, {lead + "02 08 02 0000 0001 00", 21, form}, {lead + "02 08 01 02 08 00", 19, form}, {lead + "02 08 01 8000", 17, form},
		{lead + "00 00", 0, short}, {lead + "00 00 8000", 16, form}, {lead + "00 00 02 41", 0, short},
	}
	for b := 16; b < 256; b++ {
		l = append(l, misreads{lead + "02" + hexText([]byte{byte(b)}) + "000000", 15, form})
	}
	refuses(t, "an expression", l)
	clause := "0000000000 01 000000000000 01 " // up to a clause, at 17
	refuses(t, "a clause", []misreads{
		{clause + "8000", 17, form}, {clause + "00 02", 18, form}, {clause + "00 00 8000", 19, form}, {clause + "00 00 00 10", 20, form}, {clause + "00 00 0000 00 10", 22, form}, {clause + "00 00 0000 0001 00", 23, form},
		{clause + "00", 0, short}, {clause + "00 00", 0, short}, {clause + "00 00 0000", 0, short}, {clause + "00 00 0000 0000", 0, short}, {clause + "00 00 0000 0000 8000", 23, form},
	})
}

func TestP7_7Depth(t *testing.T) {
	for _, place := range []string{"000000000000 01 000000", "0000000000 01 000000000000 01 0000", "0000000000 01 000000000000 01 0000 0000"} {
		at := len(raw(lead, place))
		one := strings.Repeat("420801", 64)
		l := []misreads{
			{place + one + "0600", at + 192, api.ErrPackBound}, {place + one + "420801 0600", at + 192, api.ErrPackBound}, {place + one + "8000", at + 192, api.ErrPackBound}, {place + one + "FF", at + 192, api.ErrPackBound},
			{place + one, 0, api.ErrPackShort}, {place + strings.Repeat("420801", 63) + "420800", at + 191, api.ErrPackForm}, {place + strings.Repeat("420801", 63) + "420802 00", 0, api.ErrPackShort}, {place + strings.Repeat("420801", 63) + "4210", at + 190, api.ErrPackForm},
			{place + strings.Repeat("420801", 1000) + "0600", at + 192, api.ErrPackBound}, {place + strings.Repeat("420801", 63) + "0600", 0, api.ErrPackShort},
			{place + "420802" + strings.Repeat("420801", 62) + "0600" + strings.Repeat("420801", 63) + "0600", at + 3 + 186 + 2 + 189, api.ErrPackBound},
		}
		refuses(t, "an expression", l)
	}
}

func TestP7_7PiecesOfAllParts(t *testing.T) {
	whole, h := fieldsApart()
	b := closedRaw(h...)
	gets(t, "the pack", b, whole)
	for i := range b { // a number that isn't closed, or is too long, at each place
		for _, s := range []string{"80", "8000", "FFFFFFFFFFFFFFFFFF02", "10", "02", "00", "7F", "FF7F"} {
			asModel(t, "spoilt", append(bytes.Clone(b[:i]), raw(s)...))
			c := append(append(bytes.Clone(b[:i]), raw(s)...), b[i+1:]...)
			asModel(t, "spoilt", c)
			asModel(t, "spoilt, with its sum", closed(c[:len(c)-4]))
		}
	}
}

func TestP7_7Sum(t *testing.T) {
	for _, p := range []api.Pack{{}, sample()} {
		b, _ := modelPut(p)
		n := len(b) - 4
		for i := n; i < len(b); i++ {
			for x := 1; x < 256; x++ {
				c := bytes.Clone(b)
				c[i] ^= byte(x)
				refused(t, "another sum", c, n, api.ErrPackSum)
				refused(t, "another sum, and more", append(c, 0), n, api.ErrPackSum)
			}
			refused(t, "half a sum", b[:i], i, api.ErrPackShort)
			half := bytes.Clone(b[:i])
			if i > n {
				half[n]++
				refused(t, "half of another sum", half, i, api.ErrPackShort)
			}
		}
		refused(t, "the sum the other way round", append(bytes.Clone(b[:n]), b[n+3], b[n+2], b[n+1], b[n]), n, api.ErrPackSum)
		for _, s := range []string{"00", "FF", lead, strings.Repeat("00", 1000)} {
			refused(t, "more", append(bytes.Clone(b), raw(s)...), len(b), api.ErrPackMore)
		}
	}
}

// spoil changes some bytes, or lays some behind them; half of the time the sum is mended, so that the bytes ahead of it count.
func spoil(r *rand.Rand, b []byte) []byte {
	b = bytes.Clone(b)
	if r.Intn(10) == 0 {
		return append(b, make([]byte, 1+r.Intn(9))...)
	}
	for range 1 + r.Intn(3) {
		i := r.Intn(len(b))
		few := byte(pick(r, 0, 1, 2, 3, 8, 15, 16, 0x7f, 0x80, 0xff))
		switch r.Intn(6) {
		case 0:
			b[i] = byte(r.Intn(256))
		case 1:
			b[i] = few
		case 2:
			b[i] += byte(r.Intn(5) - 2)
		case 3:
			b = append(b[:i:i], b[i+1:]...)
		case 4:
			b = append(b[:i:i], append([]byte{few}, b[i:]...)...)
		case 5:
			b = append(b[:i:i], b[min(len(b), i+r.Intn(9)):]...)
		}
		if len(b) < 4 {
			return b
		}
	}
	if r.Intn(2) == 0 {
		return closed(b[:len(b)-4])
	}
	return b
}

func TestP7_7SpoiltByChance(t *testing.T) {
	r := rand.New(rand.NewSource(77))
	seen := map[api.Errno]int{}
	for range 3000 {
		b, ok := modelPut(madePack(r))
		if !ok {
			continue
		}
		for range 20 {
			seen[asModel(t, "spoilt", spoil(r, b))]++
		}
	}
	for _, e := range []api.Errno{api.OK, api.ErrPackShort, api.ErrPackForm, api.ErrPackMore, api.ErrPackSum} {
		if seen[e] < 100 {
			t.Errorf("error %d was met %d times: the test has lost its weight", e, seen[e])
		}
	}
}

func TestP7_7AnyBytes(t *testing.T) {
	r := rand.New(rand.NewSource(78))
	for range 100000 {
		b := make([]byte, r.Intn(60))
		for i := range b {
			b[i] = byte(pick(r, 0, 0, 0, 1, 1, 2, 3, 8, 9, 15, 16, 65, 127, 128, 255, r.Intn(256)))
		}
		b = append(raw(lead), b...)
		asModel(t, "any bytes", b)
		asModel(t, "any bytes, with their sum", closed(b))
	}
}

// The length of a list says far more than there are items, each within the other: neither room nor time may hang on it.
func TestP7_7LongListsOfLittle(t *testing.T) {
	b := raw(lead, "000000000000 01 000000")
	for range 64 {
		b = append(b, raw("00 08 808004")...) // 65536 Args
	}
	b = append(b, make([]byte, most-len(b))...)
	for range 50 {
		refused(t, "Args within Args", b, 334, api.ErrPackBound)
	}
	b = raw(lead, "0000000000 8000")
	b[9], b[10] = 0x80, 0x80
	b = append(append(b, 0x04), make([]byte, most-len(b)-1)...)
	refused(t, "lines of zeros", b, most, api.ErrPackShort)
	b = raw(lead, "000000 01 00 FFFF03")
	b = append(b, make([]byte, most-len(b))...)
	refused(t, "bands of zeros", b, most, api.ErrPackShort)
}
