package desk_test

import (
	"fmt"
	"slices"
	"testing"

	"levy/api"
	"levy/desk"
	"levy/drawer"
	"levy/eval"
	"levy/pack"
	"levy/sheet"
	"levy/trace"
)

// outcomes: of each kind of commands the errors that it must have met by chance.
var outcomes = map[int][]int{
	api.CmdSet: {0, 110, 202, 203, 204, 205}, api.CmdClear: {0, 202, 203, 205}, api.CmdAdd: {0, 202, 205}, api.CmdDrop: {0, 202, 205},
	api.CmdUndo: {0, 111}, api.CmdRedo: {0, 112}, api.CmdForget: {0, 113}, api.CmdFork: {0, 120, 121, 123}, api.CmdSwitch: {0, 122}, api.CmdDelete: {0, 122, 124, 125},
	api.CmdMerge: {0, 122, 125, 206}, api.CmdQuery: {0, 202}, api.CmdAll: {0}, api.CmdDiff: {0, 122}, api.CmdExplain: {0, 130, 202}, api.CmdAudit: {0},
	api.CmdAdvise: {0, 160, 162, 202}, api.CmdCurve: {0, 170, 171, 201, 202, 203, 205}, api.CmdSheet: {0}, api.CmdImport: {0, 110, 180, 181}, api.CmdNames: {0}, api.CmdReopen: {0},
}

// Desks over packs by chance, told anything, but no faults of the disk: each reply is the model's, Count too (P21.5).
func TestP21_1Same(t *testing.T) {
	seen := tally{}
	eachPair(t, 2101, 100, 12, false, func(p *pair, d *director) {
		for range 250 {
			c := d.any()
			r := p.do(c)
			d.noted(r)
			seen[outcome(c, r)]++
			if r.Err == api.ErrDeskSave || r.Err == api.ErrDeskDown {
				t.Errorf("%+v: refused for the saving's sake", c)
			}
		}
	})
	for kind, l := range outcomes {
		for _, e := range l {
			seen.atLeast(t, 10, fmt.Sprint("kind ", kind, ": ", e))
		}
	}
}

// The same with faults of the disk, and falls.
func TestP21_1SameWithFaults(t *testing.T) {
	seen := tally{}
	eachPair(t, 2102, 100, 12, true, func(p *pair, d *director) {
		for range 250 {
			c := d.any()
			r := p.do(c)
			d.noted(r)
			seen[outcome(c, r)]++
		}
	})
	for kind := api.CmdSet; kind <= api.CmdFail; kind++ {
		seen.atLeast(t, 10, fmt.Sprint("kind ", kind, ": 0"), fmt.Sprint("kind ", kind, ": 207"))
	}
	for kind := api.CmdSet; kind <= api.CmdMerge; kind++ {
		seen.atLeast(t, 10, fmt.Sprint("kind ", kind, ": 208"))
	}
	seen.atLeast(t, 10, "kind 20: 208", "kind 23: 201", "kind 24: 201", "kind 25: 208")
	seen.atLeast(t, 2, "kind 25: 207")
}

// greatest: 256 cells, of which 192 are inputs of lines, the greatest amounts in all of them, and 32 flags.
func greatest() (api.Pack, func(n int64) cells) {
	p := api.Pack{Name: "great", Year: 2024}
	for i := range api.MaxGroups {
		p.Groups = append(p.Groups, api.Group{Name: numbered("g", i), Rows: api.MaxRows})
	}
	for i := range 24 {
		p.Lines = append(p.Lines, api.Line{Name: numbered("l", i), Input: true, Type: api.Cents, Options: -1, Group: i % 4})
	}
	for i := range 4 {
		p.Lines = append(p.Lines, api.Line{Name: numbered("s", i), Type: api.Cents, Options: -1, Group: i, Clauses: []api.Clause{{Body: line(i)}}})
	}
	return p, func(n int64) cells {
		c := cells{}
		for cell := range uint32(192) {
			c[cell] = cent(n - api.MaxCents)
		}
		for cell := uint32(224); cell < 256; cell++ {
			c[cell] = yes
		}
		return c
	}
}

// The greatest books: six branches, as many versions as may be, in each of which all inputs differ. Nothing is refused for the saving's sake.
func TestP21_1GreatestBook(t *testing.T) {
	p, inputs := greatest()
	v, e := eval.New(p)
	if e != api.OK {
		t.Fatalf("eval.New: error %d", int(e))
	}
	data := put(t, p)
	d, want := opened(t, data), newBook()
	do := func(c api.Cmd, kind byte, in cells) {
		t.Helper()
		if r := d.Do(c); r.Err != api.OK {
			t.Fatalf("kind %d: error %d", c.Kind, int(r.Err))
		}
		want.do(kind, in, c.N, c.Name)
	}
	n := int64(0)
	for i := range api.MaxBranches {
		name := numbered("b", i)
		if i > 0 {
			do(named(api.CmdFork, name), 5, nil)
			do(named(api.CmdSwitch, name), 6, nil)
		}
		for range api.MaxHistory {
			n++
			in := inputs(n)
			pages, e := sheet.Print(p, in.trie(), v.All(in.trie()))
			if e != api.OK {
				t.Fatalf("Print: error %d", int(e))
			}
			do(importing(pages), 1, in)
		}
		for range 20 {
			do(cmd(api.CmdUndo), 2, nil)
			do(cmd(api.CmdRedo), 3, nil)
		}
	}
	summary, _ := held(t, d, pack.Sum(data))
	if len(summary) < 300000 {
		t.Errorf("a summary of %d bytes", len(summary))
	}
	other, e := modelAt(t, data, d.Files())
	if e != api.OK || other.book.state() != want.state() {
		t.Errorf("error %d, or another book", int(e))
	}
	if r := d.Do(cmd(api.CmdReopen)); r.Err != api.OK || !slices.Equal(d.Do(cmd(api.CmdAll)).Vals, v.All(want.inputs().trie())) {
		t.Errorf("reopen: error %d, or other values", int(r.Err))
	}
}

// apart: what all lines of all branches show, told by a desk over a copy of the disk.
func (p *pair) apart() map[string]string {
	p.t.Helper()
	d, e := desk.Open(put(p.t, p.model.pack), p.desk.Files())
	if e != api.OK {
		p.t.Fatalf("Open: error %d", int(e))
	}
	shown := map[string]string{}
	for _, name := range d.Do(cmd(api.CmdNames)).Names {
		d.Do(named(api.CmdSwitch, name))
		s := fmt.Sprint(d.Do(cmd(api.CmdAll)).Vals)
		for d.Do(cmd(api.CmdUndo)).Err == api.OK {
			s += fmt.Sprint("\nundo ", d.Do(cmd(api.CmdAll)).Vals)
		}
		for d.Do(cmd(api.CmdRedo)).Err == api.OK {
			s += fmt.Sprint("\nredo ", d.Do(cmd(api.CmdAll)).Vals)
		}
		shown[name] = s
	}
	return shown
}

// What is done on a branch isn't seen on another; what was done and undone is as it was.
func TestP21_3Apart(t *testing.T) {
	seen := tally{}
	eachPair(t, 2103, 25, 8, false, func(p *pair, d *director) {
		d.deep = false
		for range 40 {
			before, on := p.apart(), p.desk.Branch()
			shown := p.desk.Do(cmd(api.CmdAll)).Vals
			p.model.do(cmd(api.CmdAll))
			c := d.changing()
			r := p.do(c)
			d.noted(p.do(cmd(api.CmdSheet)))
			for name, was := range before {
				gone := c.Kind == api.CmdDelete && c.Name == name && r.Err == api.OK
				if now, ok := p.apart()[name]; ok == gone || !gone && name != on && now != was {
					t.Fatalf("%+v: %s shows %s, ahead %s", c, name, now, was)
				}
			}
			change := slices.Contains([]int{api.CmdSet, api.CmdClear, api.CmdAdd, api.CmdDrop, api.CmdMerge, api.CmdImport}, c.Kind)
			if !change || r.Err != api.OK {
				continue
			}
			then := p.do(cmd(api.CmdAll)).Vals
			p.do(cmd(api.CmdUndo))
			if got := p.do(cmd(api.CmdAll)).Vals; !slices.Equal(got, shown) {
				t.Fatalf("%+v, undone: %v, ahead %v", c, got, shown)
			}
			p.do(cmd(api.CmdRedo))
			if got := p.do(cmd(api.CmdAll)).Vals; !slices.Equal(got, then) {
				t.Fatalf("%+v, redone: %v, ahead %v", c, got, then)
			}
			seen[fmt.Sprint("kind ", c.Kind)]++
		}
	})
	for _, kind := range []int{api.CmdSet, api.CmdClear, api.CmdAdd, api.CmdDrop, api.CmdMerge, api.CmdImport} {
		seen.atLeast(t, 2, fmt.Sprint("kind ", kind))
	}
}

// Each trace that Explain tells is taken by the checker; its root is what is shown; it names the clause that decided, and the guards above it.
func TestP21_4Shown(t *testing.T) {
	seen := tally{}
	eachPair(t, 2104, 60, 12, false, func(p *pair, d *director) {
		v, _ := eval.New(d.pack)
		for range 30 {
			p.do(d.changing())
			line, row := d.place(computedLine)
			c := api.Cmd{Kind: api.CmdExplain, Line: line, Row: row}
			r := p.do(c)
			if r.Err != api.OK {
				continue
			}
			in := p.model.book.inputs().trie()
			root := r.Trace.Nodes[len(r.Trace.Nodes)-1]
			if at, e := trace.Check(d.pack, in, r.Trace); e != api.OK {
				t.Fatalf("%+v: error %d at node %d", c, int(e), at)
			}
			one, _ := v.One(in, root.Cell)
			if q := p.do(ask(line, row)); root.Val != q.Val || one != q.Val || q.Count != 0 {
				t.Fatalf("%+v: the root has %v, shown is %v by %d evaluations, worth is %v", c, root.Val, q.Val, q.Count, one)
			}
			seen[fmt.Sprint("clause ", min(1, root.Clause))]++
			above := 0
			for _, clause := range d.pack.Lines[line].Clauses {
				if root.Clause >= 0 && clause.Guarded && clause.Priority > d.pack.Lines[line].Clauses[root.Clause].Priority {
					above++
				}
			}
			if root.Clause >= 0 && len(root.Guards) != above+min(1, root.Clause) {
				t.Fatalf("%+v: clause %d, guards %v, %d above", c, root.Clause, root.Guards, above)
			}
			for _, g := range root.Guards[:min(above, len(root.Guards))] {
				if root.Clause >= 0 && g != no {
					t.Fatalf("%+v: clause %d below the guards %v", c, root.Clause, root.Guards)
				}
			}
		}
	})
	seen.atLeast(t, 20, "clause -1", "clause 0", "clause 1")
}

// Pages that are imported at another desk of the same pack make its inputs the same.
func TestP21_8Paper(t *testing.T) {
	n := 0
	eachPair(t, 2108, 40, 14, false, func(p *pair, d *director) {
		other := newPair(t, put(t, d.pack))
		for range 30 {
			p.do(d.changing())
			other.do(d.changing())
			r := p.do(cmd(api.CmdSheet))
			d.noted(r)
			got := other.do(importing(r.Pages))
			if got.Err == api.ErrHistFull {
				other.do(counted(api.CmdForget, 9))
				got = other.do(importing(r.Pages))
			}
			if got.Err != api.OK {
				t.Fatalf("import: error %d", int(got.Err))
			}
			mine, theirs := p.do(cmd(api.CmdAll)).Vals, other.do(cmd(api.CmdAll)).Vals
			if !slices.Equal(mine, theirs) || len(differing(p.model.book.inputs(), other.model.book.inputs())) > 0 {
				t.Fatalf("%v, imported %v", mine, theirs)
			}
			if len(p.model.book.inputs()) > 2 {
				n++
			}
		}
	})
	if n < 200 {
		t.Errorf("%d returns with some inputs", n)
	}
}

// Advice is the first of the best ways: each of them tried at the desk itself.
func TestP21_7Best(t *testing.T) {
	w := benchOf(t, `pack ways 2024
options status: single, joint, widow
input filing status
input old flag
input blind flag
input wage cents
line tax cents
  is if old then scale(wage, 10%, down) else scale(wage, 20%, down)
  at 1 when filing = status.widow is split(wage, 0, down)
  at 2 when blind and filing = status.joint is 5.00
`)
	w.all("set wage 50.00")
	for _, lines := range [][]int{{0}, {1}, {2}, {0, 1}, {2, 0}, {0, 1, 2}, {2, 1, 0}, {}} {
		for most := range 2 {
			var want api.Advice
			w.each(lines, nil, func(picks []api.Value, v api.Value) {
				want.Tried++
				better := v.Kind == api.Cents && (!want.Ok || most == 0 && v.Num < want.Val.Num || most == 1 && v.Num > want.Val.Num)
				if better {
					want.Picks, want.Val, want.Ok = slices.Clone(picks), v, true
				}
			})
			w.is(fmt.Sprint(lines, most), api.Cmd{Kind: api.CmdAdvise, List: lines, Line: 4, N: most}, api.Reply{Advice: want})
		}
	}
}

// each tries all ways to fill lines, in counting order, at another desk.
func (b *bench) each(lines []int, picks []api.Value, do func(picks []api.Value, v api.Value)) {
	if len(lines) == len(picks) {
		d := opened(b.t, put(b.t, b.p), b.Files()...)
		for i, line := range lines {
			d.Do(setTo(line, 0, picks[i]))
		}
		do(picks, d.Do(ask(4, 0)).Val)
		return
	}
	l := b.p.Lines[lines[len(picks)]]
	many := 2
	if l.Type == api.Choice {
		many = 3
	}
	for n := range many {
		b.each(lines, append(slices.Clone(picks), val(l.Type, int64(n))), do)
	}
}

// anyFiles: contents of a disk: a journal of the pack that is cut, spoilt, or another's, and others beside it.
func anyFiles(t *testing.T, d *director, data []byte, files []api.File) []api.File {
	t.Helper()
	if d.Intn(12) == 0 {
		return others(39 + d.Intn(3)) // room for a journal, none, and too many
	}
	l := slices.Clone(files)
	for i, f := range l {
		f.Data = slices.Clone(f.Data)
		switch d.Intn(6) {
		case 0:
			f.Data = f.Data[:d.Intn(len(f.Data)+1)]
		case 1:
			if len(f.Data) > 0 {
				f.Data[d.Intn(len(f.Data))] ^= byte(1 << d.Intn(8))
			}
		case 2:
			f.Data = append(f.Data, "more"...)
		}
		f.Synced = d.Intn(len(f.Data) + 1)
		l[i] = f
	}
	if d.Intn(3) == 0 {
		l = append(l, sure("log-00000777", journal(t, pack.Sum(data)+uint32(d.Intn(2)), d.anyBook(), d.anyRecords()...).Data))
	}
	if d.Intn(6) == 0 {
		l = append(l, others(40-len(l)+d.Intn(2))...)
	}
	return l
}

// anyBook: a summary: a book's bytes, of inputs that fit the pack or not, or no book.
func (d *director) anyBook() []byte {
	b := newBook()
	for range d.Intn(20) {
		in := b.inputs()
		if d.Intn(3) > 0 {
			line := d.Intn(len(d.pack.Lines))
			if l := d.pack.Lines[line]; l.Group < 0 && l.Input {
				in = in.with(uint32(line), worth(d.Rand, kind{l.Type, l.Options})) // mostly another line's cell, where groups stand ahead
			}
		}
		b.do(byte(1+d.Intn(7)), in, d.Intn(3), d.branch())
	}
	data := b.bytes()
	if d.Intn(4) == 0 {
		data[d.Intn(len(data))] ^= byte(1 << d.Intn(8))
	}
	return data
}

// anyRecords: records, of which most can't be replayed.
func (d *director) anyRecords() []api.Record {
	var l []api.Record
	for range d.Intn(4) {
		r := api.Record{Kind: byte(d.Intn(9)), Body: []byte(d.branch())}
		switch r.Kind {
		case 1:
			r.Body = changeBytes(nil, cells{uint32(d.Intn(12)): oddValue(d.Rand), uint32(d.Intn(12)): worth(d.Rand, pick(d.Rand, allKinds...))})
		case 2, 3:
			r.Body = nil
		case 4:
			r.Body = []byte{byte(d.Intn(3)), byte(d.Intn(2))}
		}
		l = append(l, r)
	}
	return l
}

// Every content of the disk, every list of commands: a desk answers, and as the model does.
func TestP21_9Total(t *testing.T) {
	seen := tally{}
	eachPair(t, 2109, 80, 6, true, func(p *pair, d *director) {
		data := put(t, d.pack)
		for range 8 {
			for range 20 {
				d.noted(p.do(d.any()))
			}
			files := anyFiles(t, d, data, p.desk.Files())
			k, _ := drawer.NewDisk(files)
			another := newPair(t, data, files...)
			if (another == nil) != (k == nil) {
				t.Fatal("a desk without a disk")
			}
			if another == nil {
				seen["none"]++
				continue
			}
			switch {
			case another.model.refuses:
				seen["refuses"]++
			case another.model.book == nil:
				seen["down"]++
			default:
				seen["up"]++
			}
			for range 10 {
				another.do(d.any())
			}
		}
	})
	seen.atLeast(t, 10, "none", "refuses", "down", "up")
}

// Every byte string as pack.
func TestP21_9AnyPack(t *testing.T) {
	r := newRand(21092)
	good := compiled(t, kindsText)
	for range 3000 {
		b := slices.Clone(good)
		switch r.Intn(3) {
		case 0:
			b = make([]byte, r.Intn(60))
			r.Read(b)
		case 1:
			b = b[:r.Intn(len(b))]
		case 2:
			b[r.Intn(len(b))] ^= byte(1 + r.Intn(255))
		}
		d, e := desk.Open(b, nil)
		if d == nil || e == api.OK || d.Up() || d.Branch() != "" || d.Do(cmd(api.CmdAll)).Err != api.ErrDeskPack {
			t.Fatalf("%x: error %d", b, int(e))
		}
	}
}
