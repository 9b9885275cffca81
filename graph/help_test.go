package graph_test

import (
	"fmt"
	"iter"
	"slices"
	"strings"
	"testing"

	"levy/api"
	"levy/graph"
)

func op(o int, args ...api.Expr) api.Expr          { return api.Expr{Op: o, Args: args} }
func of(o int, n int64, args ...api.Expr) api.Expr { return api.Expr{Op: o, Num: n, Args: args} }
func line(n int) api.Expr                          { return of(api.OpLine, int64(n)) }
func sum(n int) api.Expr                           { return of(api.OpSum, int64(n)) }
func cents(n int64) api.Expr                       { return of(api.OpCents, n) }
func count(n int64) api.Expr                       { return of(api.OpCount, n) }
func flag(n int64) api.Expr                        { return of(api.OpFlag, n) }
func day(n int64) api.Expr                         { return of(api.OpDay, n) }
func choice(table, option int64) api.Expr {
	return api.Expr{Op: api.OpChoice, Num: option, Den: table}
}

// named: names that are unlike for unlike numbers below 676.
func named(lead string, n int) string {
	return lead + string([]byte{byte('a' + n/26), byte('a' + n%26)})
}

func input(name string, kind, group int) api.Line {
	return api.Line{Name: name, Input: true, Type: kind, Options: -1, Group: group}
}

// computed: a line with its default.
func computed(name string, kind, group int, body api.Expr) api.Line {
	return api.Line{Name: name, Type: kind, Options: -1, Group: group, Clauses: []api.Clause{{Body: body}}}
}

// example: the pack of the chapter's first example.
func example() api.Pack {
	young := op(api.OpIf, op(api.OpLt, line(1), count(17)), cents(200000), cents(0))
	return api.Pack{
		Name: "kids", Year: 2024, Groups: []api.Group{{Name: "kid", Rows: 2}},
		Lines: []api.Line{input("wage", api.Cents, -1), input("age", api.Count, 0), computed("credit", api.Cents, 0, young), computed("total", api.Cents, -1, sum(2))},
	}
}

// plain: a pack of lines of cents of no group, each of which adds up those that are told of it.
func plain(reads ...[]int) api.Pack {
	p := api.Pack{Name: "plain", Year: 2024}
	for i, l := range reads {
		p.Lines = append(p.Lines, computed(named("l", i), api.Cents, -1, adds(l)))
	}
	return p
}

// adds: an expression of cents that reads these lines, at most 49 of them.
func adds(lines []int) api.Expr {
	var l []api.Expr
	for _, n := range lines {
		l = append(l, line(n))
	}
	for len(l) > api.MaxArgs {
		l = append(l[api.MaxArgs:], op(api.OpAdd, slices.Clone(l[:api.MaxArgs])...))
	}
	switch len(l) {
	case 0:
		return cents(1)
	case 1:
		return l[0]
	}
	return op(api.OpAdd, l...)
}

// made asks for the graph of a pack.
func made(t *testing.T, p api.Pack) *graph.Graph {
	t.Helper()
	g, w, e := graph.New(p)
	if g == nil || len(w) != 0 || e != api.OK {
		t.Fatalf("New(%+v): %v, error %d", p, w, e)
	}
	return g
}

// cycles asks for the witness of a pack that has a cycle.
func cycles(t *testing.T, what string, p api.Pack, want ...int) {
	t.Helper()
	if g, w, e := graph.New(p); g != nil || !slices.Equal(w, want) || e != api.ErrGraphCycle {
		t.Errorf("%s: New: a graph: %t, %v, error %d, want %v", what, g != nil, w, e, want)
	}
}

// refused asks for the error of a pack that isn't well formed.
func refused(t *testing.T, what string, p api.Pack, errno api.Errno) {
	t.Helper()
	if g, w, e := graph.New(p); g != nil || len(w) != 0 || e != errno {
		t.Errorf("%s: New: a graph: %t, %v, error %d, want error %d", what, g != nil, w, e, errno)
	}
}

func list(seq iter.Seq[int]) []int { return slices.Collect(seq) }

// gives asks for what an iterator gives.
func gives(t *testing.T, what string, seq iter.Seq[int], want ...int) {
	t.Helper()
	if got := list(seq); !slices.Equal(got, want) {
		t.Errorf("%s: %v, want %v", what, got, want)
	}
}

// spots asks for a cell that a call tells, or for none (-1).
func spots(t *testing.T, what string, call func(index, row int) (int, bool), index, row, want int) {
	t.Helper()
	if cell, ok := call(index, row); ok != (want >= 0) || cell != max(want, 0) {
		t.Errorf("%s(%d, %d): %d, %t, want %d", what, index, row, cell, ok, want)
	}
}

// text tells all that a graph answers of its cells, and of some numbers beside them.
func text(g *graph.Graph) string {
	var s strings.Builder
	fmt.Fprint(&s, g.Cells(), g.Order())
	for i := -2; i < g.Cells()+2; i++ {
		place, ok := g.Place(i)
		fmt.Fprint(&s, "\n", i, place, ok, g.Rank(i), list(g.Reads(i)), list(g.Users(i)), list(g.Hit(i)), list(g.Need(i)))
		for row := -1; row <= api.MaxRows && i <= api.MaxLines; row++ {
			fmt.Fprint(&s, told(g.Cell(i, row)), told(g.Flag(i, row)), told(g.Check(i, row)))
		}
	}
	return s.String()
}

func told(n int, ok bool) string { return fmt.Sprint(" ", n, ok) }
