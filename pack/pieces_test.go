package pack_test

import (
	"bytes"
	"math"
	"math/rand"
	"strings"
	"testing"

	"levy/api"
	"levy/pack"
)

// numbers: some numbers and their bytes.
func numbers() map[uint64]string {
	return map[uint64]string{
		0: "00", 1: "01", 2: "02", 127: "7F", 128: "8001", 129: "8101", 255: "FF01", 256: "8002", 300: "AC02",
		1<<14 - 1: "FF7F", 1 << 14: "808001", 1<<21 - 1: "FFFF7F", 1 << 21: "80808001", 1<<28 - 1: "FFFFFF7F", 1 << 28: "8080808001",
		1<<35 - 1: "FFFFFFFF7F", 1 << 35: "808080808001", 1<<63 - 1: "FFFFFFFFFFFFFFFF7F", 1 << 63: "80808080808080808001", math.MaxUint64: "FFFFFFFFFFFFFFFFFF01",
	}
}

func TestP7_1Ints(t *testing.T) {
	for n, h := range numbers() {
		i := int64(n / 2)
		if n%2 == 1 {
			i = -i - 1
		}
		both(t, "a year", api.Pack{Year: int(i)}, closedRaw("00", h, "0000000000"))
		both(t, "a rate", api.Pack{Tables: []api.Table{{Bands: []api.Band{{Rate: i}}}}}, closedRaw("00 00 00 01 00 01 00", h, "000000"))
	}
	for i, h := range map[int]string{
		0: "00", -1: "01", 1: "02", -2: "03", 2: "04", 5: "0A", 63: "7E", -64: "7F", 64: "8001", -65: "8101", 2024: "D01F",
		math.MaxInt64: "FEFFFFFFFFFFFFFFFF01", math.MinInt64: "FFFFFFFFFFFFFFFFFF01", math.MaxInt64 - 1: "FCFFFFFFFFFFFFFFFF01", math.MinInt64 + 1: "FDFFFFFFFFFFFFFFFF01",
	} {
		both(t, "a year", api.Pack{Year: i}, closedRaw("00", h, "0000000000"))
	}
}

func TestP7_1Texts(t *testing.T) {
	for n, h := range numbers() {
		if n > 1<<14 {
			continue
		}
		s := strings.Repeat("y", int(n))
		both(t, "a name", api.Pack{Name: s}, closedRaw(h, hexText([]byte(s)), "000000000000"))
		both(t, "a check's text", api.Pack{Checks: []api.Check{{Text: s}}}, closedRaw("000000000000 01 00000000 00", h, hexText([]byte(s))))
	}
	for _, s := range []string{"\x00", "\xff\xfe", "é", "\x80", "A B", "LVY1", "\n"} {
		both(t, "any bytes", api.Pack{Name: s}, closedRaw(hexText([]byte{byte(len(s))}), hexText([]byte(s)), "000000000000"))
	}
}

func TestP7_1Flags(t *testing.T) {
	both(t, "Input", api.Pack{Lines: []api.Line{{Input: true}}}, closedRaw("0000000000 01 00 01 00 00000000 00"))
	both(t, "Must", api.Pack{Lines: []api.Line{{Must: true}}}, closedRaw("0000000000 01 00 00 01 00000000 00"))
	both(t, "both", api.Pack{Lines: []api.Line{{Input: true, Must: true}}}, closedRaw("0000000000 01 00 01 01 00000000 00"))
	both(t, "Hard", api.Pack{Checks: []api.Check{{Hard: true}}}, closedRaw("000000000000 01 00 01 00 0000 00"))
	both(t, "Guarded", api.Pack{Lines: []api.Line{{Clauses: []api.Clause{{Guarded: true}}}}}, closedRaw("0000000000 01 0000000000 00 01 00 01 0000 0000 00"))
}

func TestP7_1Lists(t *testing.T) {
	for n, h := range numbers() {
		if n > 1<<14 {
			continue
		}
		both(t, "texts", api.Pack{Options: []api.Options{{Names: make([]string, n)}}}, closedRaw("0000 01 00", h, strings.Repeat("00", int(n)), "00000000"))
		both(t, "bands", api.Pack{Tables: []api.Table{{Bands: make([]api.Band, n)}}}, closedRaw("000000 01 00", h, strings.Repeat("0000", int(n)), "000000"))
		both(t, "groups", api.Pack{Groups: make([]api.Group, n)}, closedRaw("00000000", h, strings.Repeat("0000", int(n)), "0000"))
		if n > 0 {
			both(t, "Args", check(api.Expr{Args: make([]api.Expr, n)}), closedRaw("000000000000 01 000000 0008", h, strings.Repeat("0000", int(n)), "00"))
		}
	}
	for _, n := range []int{0, 1, 2, 127, 128, 1000} {
		h := numbers()[uint64(n)]
		if n == 1000 {
			h = "E807"
		}
		both(t, "options", api.Pack{Options: make([]api.Options, n)}, closedRaw("0000", h, strings.Repeat("0000", n), "00000000"))
		both(t, "tables", api.Pack{Tables: make([]api.Table, n)}, closedRaw("000000", h, strings.Repeat("0000", n), "000000"))
		both(t, "lines", api.Pack{Lines: make([]api.Line, n)}, closedRaw("0000000000", h, strings.Repeat("00000000000000", n), "00"))
		both(t, "checks", api.Pack{Checks: make([]api.Check, n)}, closedRaw("000000000000", h, strings.Repeat("000000000000", n)))
		both(t, "clauses", api.Pack{Lines: []api.Line{{Clauses: make([]api.Clause, n)}}}, closedRaw("0000000000 01 000000000000", h, strings.Repeat("000000000000", n), "00"))
	}
	both(t, "in their order", api.Pack{Options: []api.Options{{Names: []string{"c", "a", "", "b"}}}}, closedRaw("0000 01 00 04 0163 0161 00 0162 00000000"))
}

func TestP7_1NilAndEmptyAreTheSame(t *testing.T) {
	zero := closedRaw("00000000000000")
	puts(t, "nil lists", api.Pack{}, zero)
	puts(t, "empty lists", api.Pack{Options: []api.Options{}, Tables: []api.Table{}, Groups: []api.Group{}, Lines: []api.Line{}, Checks: []api.Check{}}, zero)
	a := api.Pack{Options: make([]api.Options, 1), Tables: make([]api.Table, 1), Lines: []api.Line{{Clauses: make([]api.Clause, 1)}}}
	b := api.Pack{Options: []api.Options{{Names: []string{}}}, Tables: []api.Table{{Bands: []api.Band{}}}, Lines: []api.Line{{Clauses: []api.Clause{{Guard: api.Expr{Args: []api.Expr{}}, Body: api.Expr{Args: []api.Expr{}}}}}}}
	want, _ := pack.Put(a)
	puts(t, "empty lists within", b, want)
	puts(t, "empty clauses", api.Pack{Lines: []api.Line{{Clauses: []api.Clause{}}}}, closedRaw("0000000000 01 00000000000000 00"))
}

// exprs: expressions and their bytes.
func exprs() map[string]api.Expr {
	line := []api.Expr{{Op: 6, Num: 3}}
	return map[string]api.Expr{
		"0000":         {},
		"02010A":       {Op: api.OpCents, Num: 5},
		"1E08010C0106": {Op: api.OpNeg, Args: line},
		"0600":         {Op: api.OpFlag},
		"0600 ":        {Op: api.OpFlag, Args: []api.Expr{}},
		"00 01 01":     {Num: -1}, "00 02 03": {Den: -2}, "00 04 05": {Mode: -3}, "00 08 01 0000": {Args: make([]api.Expr, 1)},
		"01 03 0204": {Op: -1, Num: 1, Den: 2}, "01 05 0204": {Op: -1, Num: 1, Mode: 2}, "01 06 0204": {Op: -1, Den: 1, Mode: 2}, "01 07 020406": {Op: -1, Num: 1, Den: 2, Mode: 3},
		"02 09 02 010C0106": {Op: 1, Num: 1, Args: line}, "02 0A 02 010C0106": {Op: 1, Den: 1, Args: line}, "02 0C 02 010C0106": {Op: 1, Mode: 1, Args: line},
		"02 0B 0204 010C0106": {Op: 1, Num: 1, Den: 2, Args: line}, "02 0D 0204 010C0106": {Op: 1, Num: 1, Mode: 2, Args: line}, "02 0E 0204 010C0106": {Op: 1, Den: 1, Mode: 2, Args: line},
		"20 0F 01 06 0A 010C0106":   {Op: api.OpScale, Num: -1, Den: 3, Mode: 5, Args: line},
		"1A 08 03 0600 02010A 0600": {Op: api.OpAdd, Args: []api.Expr{{Op: 3}, {Op: 1, Num: 5}, {Op: 3}}},
		"42 08 01 42 08 01 0600":    {Op: api.OpNot, Args: []api.Expr{{Op: api.OpNot, Args: []api.Expr{{Op: 3}}}}},
		"FEFFFFFFFFFFFFFFFF01 07 FFFFFFFFFFFFFFFFFF01 FEFFFFFFFFFFFFFFFF01 FFFFFFFFFFFFFFFFFF01": {Op: math.MaxInt, Num: math.MinInt64, Den: math.MaxInt64, Mode: math.MinInt},
	}
}

func TestP7_2Expressions(t *testing.T) {
	for h, e := range exprs() {
		both(t, "a check", check(e), closedRaw("000000000000 01 000000", h, "00"))
		both(t, "a body", api.Pack{Lines: []api.Line{{Clauses: []api.Clause{{Body: e}}}}}, closedRaw("0000000000 01 000000000000 01 0000 0000", h, "00"))
		both(t, "a guard", api.Pack{Lines: []api.Line{{Clauses: []api.Clause{{Guard: e}}}}}, closedRaw("0000000000 01 000000000000 01 0000", h, "0000 00"))
		both(t, "an argument", check(api.Expr{Op: 1, Args: []api.Expr{{}, e, {}}}), closedRaw("000000000000 01 000000 020803 0000", h, "0000 00"))
	}
}

func TestP7_2Depth(t *testing.T) {
	for deep := 1; deep <= 64; deep++ {
		h := strings.Repeat("420801", deep-1) + "0600"
		both(t, "a check", check(nested(deep)), closedRaw("000000000000 01 000000", h, "00"))
		both(t, "a guard and a body", api.Pack{Lines: []api.Line{{Clauses: []api.Clause{{Guard: nested(deep), Body: nested(deep)}}}}}, closedRaw("0000000000 01 000000000000 01 0000", h, h, "00"))
	}
}

// fieldsApart: a pack whose fields all differ, each part twice, and the bytes of its parts.
func fieldsApart() (api.Pack, []string) {
	p := api.Pack{
		Name: "n", Year: 1,
		Options: []api.Options{{Name: "o", Names: []string{"p", "q"}}, {Name: "oo"}},
		Tables:  []api.Table{{Name: "t", Bands: []api.Band{{From: 2, Rate: 3}, {From: 4, Rate: 5}}}, {Name: "tt"}},
		Groups:  []api.Group{{Name: "g", Rows: 6}, {Name: "gg", Rows: -6}},
		Lines: []api.Line{{Name: "l", Input: true, Type: 7, Options: 8, Group: 9, Clauses: []api.Clause{
			{Priority: 10, Guarded: true, Guard: api.Expr{Op: 11, Num: 12}, Body: api.Expr{Op: 13, Den: 14}}, {Priority: 15, Guard: api.Expr{Op: 16, Mode: 17}},
		}}, {Name: "ll", Must: true, Type: -7, Options: -8, Group: -9}},
		Checks: []api.Check{{Name: "c", Hard: true, Group: 18, When: api.Expr{Op: 19, Num: 20, Den: 21, Mode: 22}, Text: "d"}, {Name: "cc", Group: -18, Text: "dd"}},
	}
	return p, []string{
		"016E 02", "02 016F 02 0170 0171  026F6F 00", "02 0174 02 0406 080A  027474 00", "02 0167 0C 026767 0B",
		"02 016C 01 00 0E 10 12 02  14 01 16 01 18 1A 02 1C  1E 00 20 04 22 0000", "026C6C 00 01 0D 0F 11 00",
		"02 0163 01 24 26 07 28 2A 2C 0164  026363 00 23 0000 026464",
	}
}

func TestP7_3Parts(t *testing.T) {
	whole, h := fieldsApart()
	both(t, "options", api.Pack{Options: whole.Options}, closedRaw("0000", h[1], "00000000"))
	both(t, "tables", api.Pack{Tables: whole.Tables}, closedRaw("000000", h[2], "000000"))
	both(t, "groups", api.Pack{Groups: whole.Groups}, closedRaw("00000000", h[3], "0000"))
	both(t, "lines", api.Pack{Lines: whole.Lines}, closedRaw("0000000000", h[4], h[5], "00"))
	both(t, "checks", api.Pack{Checks: whole.Checks}, closedRaw("000000000000", h[6]))
}

func TestP7_4Packs(t *testing.T) {
	both(t, "all zero", api.Pack{}, append(raw("4C 56 59 31 00 00 00 00 00 00 00"), 0x6b, 0xdd, 0x8e, 0x74))
	whole, h := fieldsApart()
	both(t, "some of everything", whole, closedRaw(h...))
	b, _ := modelPut(sample())
	both(t, "the sample", sample(), b)
}

func TestP7_5Sum(t *testing.T) {
	for s, want := range map[string]uint32{"": 2166136261, "a": 3826002220, "b": 0xe70c2de5, "foobar": 0xbf9cf968, "\x00": 0x050c5d1f, "\xff": 0x7a0b824e} {
		if got := pack.Sum([]byte(s)); got != want {
			t.Errorf("Sum(%q): %d, want %d", s, got, want)
		}
	}
	r := rand.New(rand.NewSource(5))
	for range 2000 {
		b := make([]byte, r.Intn(300))
		r.Read(b)
		n := uint64(2166136261)
		for _, x := range b {
			n = (n>>8<<8 + (n%256 ^ uint64(x))) * 16777619 % (1 << 32)
		}
		if got := pack.Sum(b); uint64(got) != n {
			t.Errorf("Sum(% X): %d, want %d", b, got, n)
		}
	}
	if pack.Sum(nil) != pack.Sum([]byte{}) || pack.Sum(bytes.Repeat([]byte{7}, 1<<20)) != modelSum(bytes.Repeat([]byte{7}, 1<<20)) {
		t.Error("Sum of nothing, or of much")
	}
}
