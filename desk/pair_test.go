package desk_test

import (
	"fmt"
	"math/rand"
	"testing"

	"levy/api"
	"levy/desk"
)

// pair: a desk and the model of it, told the same.
type pair struct {
	t     *testing.T
	desk  *desk.Desk
	model *model
}

// newPair opens both, and asks that they are alike; nil, where there is no desk.
func newPair(t *testing.T, data []byte, files ...api.File) *pair {
	t.Helper()
	m, want := modelAt(t, data, files)
	d, e := desk.Open(data, files)
	if e != want || (d == nil) != (m == nil) {
		t.Fatalf("Open: a desk: %t, error %d; want one: %t, error %d", d != nil, int(e), m != nil, int(want))
	}
	if m == nil {
		return nil
	}
	p := &pair{t, d, m}
	p.alike("Open")
	return p
}

// alike asks for all that a desk tells beside replies.
func (p *pair) alike(what string) {
	p.t.Helper()
	name := ""
	if p.model.book != nil {
		name = p.model.book.current
	}
	if got := p.desk.Branch(); got != name {
		p.t.Errorf("%s: Branch %q, want %q", what, got, name)
	}
	if got := p.desk.Up(); got != (p.model.book != nil) {
		p.t.Errorf("%s: Up %t", what, got)
	}
	if got, want := p.desk.Files(), p.model.disk.Files(); !sameFiles(got, want) {
		p.t.Errorf("%s: files %.300v, want %.300v", what, fmt.Sprint(got), fmt.Sprint(want))
	}
}

// do does a command at both.
func (p *pair) do(c api.Cmd) api.Reply {
	p.t.Helper()
	want := p.model.do(c)
	got := p.desk.Do(c)
	what := fmt.Sprintf("%+v", c)
	if !sameReply(got, want) {
		p.t.Fatalf("%.400s: %s, want %s", what, brief(got), brief(want))
	}
	p.alike(what)
	if p.t.Failed() {
		p.t.Fatal("so no further")
	}
	return got
}

// outcome: what became of a command, in short.
func outcome(c api.Cmd, r api.Reply) string { return fmt.Sprint("kind ", c.Kind, ": ", int(r.Err)) }

// eachPair calls do with pairs over packs by chance.
func eachPair(t *testing.T, seed int64, many, lines int, rigs bool, do func(p *pair, d *director)) {
	t.Helper()
	r := rand.New(rand.NewSource(seed))
	for range many {
		made := madePack(r, lines)
		d := &director{Rand: r, pack: made, rigs: rigs, deep: r.Intn(3) == 0}
		if do(newPair(t, put(t, made)), d); t.Failed() {
			t.Fatalf("the pack: %+v", made)
		}
	}
}

// noted keeps the pages of a reply.
func (d *director) noted(r api.Reply) {
	if len(r.Pages) > 0 {
		d.pages = append(d.pages, r.Pages)
	}
}
