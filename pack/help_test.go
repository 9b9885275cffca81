package pack_test

import (
	"bytes"
	"encoding/hex"
	"fmt"
	"strings"
	"testing"

	"levy/api"
	"levy/pack"
)

// text tells a pack; nil and empty lists alike.
func text(x any) string { return fmt.Sprintf("%+v", x) }

// raw: the bytes of some texts of hexadecimal digits, one behind the other.
func raw(l ...string) []byte {
	b, err := hex.DecodeString(strings.ReplaceAll(strings.Join(l, ""), " ", ""))
	if err != nil {
		panic(err)
	}
	return b
}

// hexText: bytes as such a text.
func hexText(b []byte) string { return hex.EncodeToString(b) }

// lead: the bytes that a pack begins with.
const lead = "4C565931"

// closed: bytes with their sum behind them.
func closed(b []byte) []byte {
	n := modelSum(b)
	return append(bytes.Clone(b), byte(n), byte(n>>8), byte(n>>16), byte(n>>24))
}

// closedRaw: the bytes of a pack, told by what stands between their beginning and their sum.
func closedRaw(l ...string) []byte { return closed(raw(append([]string{lead}, l...)...)) }

// puts asks for a pack's bytes.
func puts(t *testing.T, what string, p api.Pack, want []byte) {
	t.Helper()
	if b, e := pack.Put(p); e != api.OK || !bytes.Equal(b, want) {
		t.Errorf("%s: Put: % X, error %d, want % X", what, b, e, want)
	}
}

// gets asks for the pack of some bytes.
func gets(t *testing.T, what string, b []byte, want api.Pack) {
	t.Helper()
	if p, at, e := pack.Get(b); e != api.OK || at != 0 || text(p) != text(want) {
		t.Errorf("%s: Get: %+v, %d, error %d, want %+v", what, p, at, e, want)
	}
}

// both asks for a pack's bytes, and for the pack of these.
func both(t *testing.T, what string, p api.Pack, want []byte) {
	t.Helper()
	puts(t, what, p, want)
	gets(t, what, want, p)
}

// beyond asks that a pack has no bytes.
func beyond(t *testing.T, what string, p api.Pack) {
	t.Helper()
	if b, e := pack.Put(p); e != api.ErrPackBound || len(b) != 0 {
		t.Errorf("%s: Put: %d bytes, error %d", what, len(b), e)
	}
}

// refused asks for the fault of some bytes, and that the answer has no pack.
func refused(t *testing.T, what string, b []byte, at int, errno api.Errno) {
	t.Helper()
	if p, n, e := pack.Get(b); e != errno || n != at || text(p) != text(api.Pack{}) {
		t.Errorf("%s: Get: %+v, %d, error %d, want %d, error %d", what, p, n, e, at, errno)
	}
}

// asModel asks Get for what the model tells of some bytes, and tells the error.
func asModel(t *testing.T, what string, b []byte) api.Errno {
	t.Helper()
	want, at, errno := modelGet(b)
	if p, n, e := pack.Get(b); e != errno || n != at || text(p) != text(want) {
		t.Errorf("%s: Get(% X): %d, error %d, want %d, error %d", what, b, n, e, at, errno)
	}
	return errno
}

// sample: a pack that is well formed and has some of everything.
func sample() api.Pack {
	line := func(n int64) api.Expr { return api.Expr{Op: api.OpLine, Num: n} }
	return api.Pack{
		Name: "sample", Year: 2025,
		Options: []api.Options{{Name: "status", Names: []string{"single", "joint", "widow"}}, {Name: "size", Names: []string{"small"}}},
		Tables:  []api.Table{{Name: "rates", Bands: []api.Band{{From: 0, Rate: 100000}, {From: 1100000, Rate: 125000}}}, {Name: "flat", Bands: []api.Band{{From: 0, Rate: 5}}}},
		Groups:  []api.Group{{Name: "kid", Rows: 3}, {Name: "slip", Rows: 8}},
		Lines: []api.Line{
			{Name: "wage", Input: true, Must: true, Type: api.Cents, Options: -1, Group: -1},
			{Name: "state", Input: true, Type: api.Choice, Options: 0, Group: -1},
			{Name: "pay", Input: true, Type: api.Cents, Options: -1, Group: 1},
			{Name: "tax", Must: true, Type: api.Cents, Options: -1, Group: -1, Clauses: []api.Clause{
				{Body: api.Expr{Op: api.OpAdd, Args: []api.Expr{{Op: api.OpBracket, Args: []api.Expr{line(0)}}, {Op: api.OpSum, Num: 2}}}},
				{Priority: 9, Guarded: true, Guard: api.Expr{Op: api.OpEq, Args: []api.Expr{line(1), {Op: api.OpChoice, Num: 1}}}, Body: api.Expr{Op: api.OpScale, Num: -1, Den: 3, Mode: api.HalfEven, Args: []api.Expr{line(0)}}},
			}},
		},
		Checks: []api.Check{
			{Name: "rich", Hard: true, Group: -1, When: api.Expr{Op: api.OpGt, Args: []api.Expr{line(0), {Op: api.OpCents, Num: api.MaxCents}}}, Text: "too much"},
			{Name: "idle", Group: 1, When: api.Expr{Op: api.OpIsBlank, Args: []api.Expr{line(2)}}, Text: "no pay"},
		},
	}
}

// check: a pack that has one check alone, of this expression.
func check(e api.Expr) api.Pack { return api.Pack{Checks: []api.Check{{When: e}}} }

// nested: an expression that is so deep.
func nested(deep int) api.Expr {
	e := api.Expr{Op: api.OpFlag}
	for range deep - 1 {
		e = api.Expr{Op: api.OpNot, Args: []api.Expr{e}}
	}
	return e
}
