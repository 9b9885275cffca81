package pack_test

import (
	"math"
	"slices"
	"strings"
	"testing"

	"levy/api"
	"levy/pack"
)

const most = 131072 // MaxPack

// withExpr: packs that have an expression in each place where one may stand.
func withExpr(e api.Expr) map[string]api.Pack {
	return map[string]api.Pack{
		"a guard": {Lines: []api.Line{{Clauses: []api.Clause{{Guard: e}}}}},
		"a body":  {Lines: []api.Line{{}, {Clauses: []api.Clause{{}, {Body: e}}}}},
		"a check": {Checks: []api.Check{{}, {When: e}}},
	}
}

// nestedLate: an expression that is so deep, by the last of each node's arguments.
func nestedLate(deep int) api.Expr {
	e := nested(1)
	for range deep - 1 {
		e = api.Expr{Args: []api.Expr{nested(1), nested(1), e}}
	}
	return e
}

func TestP7_6TooDeep(t *testing.T) {
	for what, p := range withExpr(nested(64)) {
		b, ok := modelPut(p)
		if !ok {
			t.Fatal("the model refuses 64 deep")
		}
		both(t, what, p, b)
	}
	for _, deep := range []int{65, 66, 100, 1 << 16} {
		for what, p := range withExpr(nested(deep)) {
			beyond(t, what, p)
		}
	}
	for what, p := range withExpr(nestedLate(64)) {
		b, _ := modelPut(p)
		both(t, what+" whose last arguments are deep", p, b)
	}
	for what, p := range withExpr(nestedLate(65)) {
		beyond(t, what+" whose last arguments are deep", p)
	}
	for what, p := range withExpr(api.Expr{Args: []api.Expr{nested(1), nested(63), nested(64), nested(2)}}) {
		beyond(t, what+" with one argument too deep", p)
	}
}

// sized: packs that would have so many bytes, each grown in another place.
func sized(n int) map[string]api.Pack {
	l := map[string]api.Pack{}
	grow := func(what string, make func(text string) api.Pack) {
		small, _ := modelPut(make(""))
		l[what] = make(strings.Repeat("z", n-len(small)-2)) // a length of three bytes instead of one
	}
	e := api.Expr{Op: 1, Num: 2, Args: make([]api.Expr, 100)}
	grow("the name", func(s string) api.Pack { return api.Pack{Name: s} })
	grow("an option", func(s string) api.Pack { return api.Pack{Options: []api.Options{{Names: []string{"a", s}}}} })
	grow("a line's name", func(s string) api.Pack {
		return api.Pack{Lines: []api.Line{{Name: s, Clauses: []api.Clause{{Guard: e, Body: e}}}}}
	})
	grow("a check's text", func(s string) api.Pack { return api.Pack{Checks: []api.Check{{When: e, Text: s}}} })
	grow("a check's name", func(s string) api.Pack { return api.Pack{Checks: []api.Check{{Name: s, When: e, Text: "at the end"}}} })
	grow("the name, with all parts", func(s string) api.Pack { p := sample(); p.Name = s; return p })
	args := make([]api.Expr, (n-27)/2) // ahead of them 14 bytes and 3 of their length, behind them 1, and 4 of the sum
	p := check(api.Expr{Args: args})
	b, _ := modelPut(p)
	for len(b) < n {
		p.Name += "z"
		b, _ = modelPut(p)
	}
	l["arguments"] = p
	return l
}

func TestP7_6TooManyBytes(t *testing.T) {
	for _, n := range []int{most - 1, most} {
		for what, p := range sized(n) {
			b, _ := modelPut(p)
			if len(b) != n {
				t.Fatalf("%s: the test's pack has %d bytes, not %d", what, len(b), n)
			}
			both(t, what, p, b)
		}
	}
	for n := most + 1; n < most+9; n++ {
		for what, p := range sized(n) {
			if b, _ := modelPut(p); len(b) != n {
				t.Fatalf("%s: the test's pack has %d bytes, not %d", what, len(b), n)
			}
			beyond(t, what, p)
		}
	}
	beyond(t, "a long name", api.Pack{Name: strings.Repeat("z", 1<<28)})
	beyond(t, "a long text at the end", api.Pack{Checks: []api.Check{{Text: strings.Repeat("z", most)}}})
	beyond(t, "both", api.Pack{Name: strings.Repeat("z", most), Checks: []api.Check{{When: nested(65)}}})
}

func TestP7_6StrangeLists(t *testing.T) {
	loop := make([]api.Expr, 3)
	for i := range loop {
		loop[i] = api.Expr{Op: i, Args: loop}
	}
	shared := nested(2)
	for range 62 {
		shared = api.Expr{Args: slices.Repeat([]api.Expr{shared}, 6)}
	}
	wide := api.Expr{Args: make([]api.Expr, 1<<22)}
	for _, e := range []api.Expr{loop[0], shared, wide} {
		for what, p := range withExpr(e) {
			beyond(t, what, p)
		}
	}
	beyond(t, "many options", api.Pack{Options: make([]api.Options, 1<<22)})
	beyond(t, "many names", api.Pack{Options: []api.Options{{Names: make([]string, 1<<22)}}})
	beyond(t, "many tables", api.Pack{Tables: make([]api.Table, 1<<22)})
	beyond(t, "many bands", api.Pack{Tables: []api.Table{{Bands: make([]api.Band, 1<<22)}}})
	beyond(t, "many groups", api.Pack{Groups: make([]api.Group, 1<<22)})
	beyond(t, "many lines", api.Pack{Lines: make([]api.Line, 1<<20)})
	beyond(t, "many clauses", api.Pack{Lines: []api.Line{{Clauses: make([]api.Clause, 1<<18)}}})
	beyond(t, "many checks", api.Pack{Checks: make([]api.Check, 1<<20)})
	far := slices.Repeat([]api.Line{{Clauses: slices.Repeat([]api.Clause{{Body: api.Expr{Args: make([]api.Expr, 1<<12)}}}, 1<<12)}}, 1<<12)
	beyond(t, "lists that share items, each many times", api.Pack{Lines: far})
}

// A list that is far beyond the bound mustn't be gone through: there is no time for it.
func TestP7_6LeavesOffBeyondTheBound(t *testing.T) {
	names := slices.Repeat([]string{strings.Repeat("z", 1<<16)}, 1<<20)
	beyond(t, "texts that share bytes", api.Pack{Options: slices.Repeat([]api.Options{{Names: names}}, 1<<16)})
	if b, e := pack.Put(api.Pack{Year: math.MinInt, Options: []api.Options{{Names: names[:1]}}}); e != api.OK || len(b) != 1<<16+29 {
		t.Errorf("a pack of one of them: %d bytes, error %d", len(b), e)
	}
}
