package audit_test

import (
	"math"
	"math/rand"
	"testing"

	"levy/api"
	"levy/audit"
	"levy/graph"
)

// refused asks for graph.New's error, and for no auditor.
func refused(t *testing.T, what string, p api.Pack, want api.Errno) {
	t.Helper()
	a, e := audit.New(p)
	if _, _, told := graph.New(p); a != nil || e != want || e != told {
		t.Errorf("%s: New: %v, error %d, want error %d, graph.New tells %d", what, a, e, want, told)
	}
}

func TestP14_1Refused(t *testing.T) {
	turned := func(does func(p *api.Pack)) api.Pack {
		p := example()
		does(&p)
		return p
	}
	refused(t, "no pack", api.Pack{}, api.ErrTypeSize)
	refused(t, "a name twice", turned(func(p *api.Pack) { p.Lines[1].Name = "wage" }), api.ErrTypeTwice)
	refused(t, "a group that isn't", turned(func(p *api.Pack) { p.Lines[1].Group = 1 }), api.ErrTypeGroup)
	refused(t, "a check of a group that isn't", turned(func(p *api.Pack) { p.Checks[0].Group = math.MaxInt }), api.ErrTypeGroup)
	refused(t, "a check that is no flag", turned(func(p *api.Pack) { p.Checks[0].When = cents(5) }), api.ErrTypeKind)
	refused(t, "a cycle", turned(func(p *api.Pack) { p.Lines[3].Clauses[0].Body = line(3) }), api.ErrGraphCycle)
	refused(t, "a cycle over a group", turned(func(p *api.Pack) { p.Lines[2].Clauses[0].Body = op(api.OpMin, line(3), cents(100)) }), api.ErrGraphCycle)
	refused(t, "a cycle and a fault", turned(func(p *api.Pack) {
		p.Lines[3].Clauses[0].Body, p.Checks[0].When = line(3), cents(5)
	}), api.ErrTypeKind)
}

func TestP14_1Taken(t *testing.T) {
	for _, p := range []api.Pack{example(), several(), greatest()} {
		made(t, p)
	}
}

// By chance, packs with cycles among them: New takes what graph.New takes.
func TestP14_1AsGraph(t *testing.T) {
	r := rand.New(rand.NewSource(141))
	counts := tally{}
	for range 300 {
		p := madePack(r, 16, shape{3, 4, 10})
		_, _, want := graph.New(p)
		a, e := audit.New(p)
		if e != want || (a == nil) != (e != api.OK) {
			t.Fatalf("error %d, want %d", e, want)
		}
		counts[map[bool]string{true: "taken", false: "refused"}[e == api.OK]]++
	}
	counts.atLeast(t, 50, "taken", "refused")
}
