package desk_test

import (
	"fmt"
	"slices"
	"testing"

	"levy/api"
	"levy/branch"
	"levy/desk"
	"levy/drawer"
	"levy/pack"
	"levy/types"
)

// refusesAll asks that a desk refuses: everything, and with nothing but its error.
func refusesAll(t *testing.T, what string, d *desk.Desk, files []api.File) {
	t.Helper()
	if d == nil {
		t.Fatalf("%s: no desk", what)
	}
	for kind := -1; kind < 28; kind++ {
		c := api.Cmd{Kind: kind, Name: "main", List: []int{0, 0, 1}}
		if r := d.Do(c); !sameReply(r, api.Reply{Err: api.ErrDeskPack}) {
			t.Errorf("%s: kind %d: %s", what, kind, brief(r))
		}
	}
	if d.Branch() != "" || d.Up() || !sameFiles(d.Files(), files) {
		t.Errorf("%s: branch %q, up %t, %d files", what, d.Branch(), d.Up(), len(d.Files()))
	}
}

// others: so many files that are no journal's.
func others(n int) []api.File {
	var l []api.File
	for i := range n {
		l = append(l, sure(fmt.Sprintf("note-%02d", i), []byte("kept")))
	}
	return l
}

// journal: the file of a journal, of a summary and records.
func journal(t *testing.T, sum uint32, summary []byte, records ...api.Record) api.File {
	t.Helper()
	k, e := drawer.NewDisk(nil)
	w, _, _, f := drawer.Open(k, sum)
	if e != api.OK || f != api.OK {
		t.Fatal("no drawer")
	}
	if summary != nil && w.Fold(summary) != api.OK {
		t.Fatal("no summary")
	}
	for _, r := range records {
		if w.Put(r) != api.OK {
			t.Fatal("no record")
		}
	}
	return k.Files()[0]
}

func TestP20_1NoDisk(t *testing.T) {
	for _, files := range [][]api.File{
		{{Name: "A"}}, {{Name: ""}}, {{Name: "a"}, {Name: "a"}}, {{Name: "a", Synced: 1}}, {{Name: "a", Synced: -1}}, others(41), {{Name: "a", Data: make([]byte, api.MaxFile+1)}},
	} {
		for _, b := range [][]byte{compiled(t, simple), []byte("no pack"), nil} { // the disk's error is the first
			if d, e := desk.Open(b, files); d != nil || e != api.ErrDiskFiles {
				t.Errorf("%.60v: a desk: %t, error %d", files, d != nil, int(e))
			}
		}
	}
}

func TestP20_1NoPack(t *testing.T) {
	good := compiled(t, simple)
	ill := packOf(t, good)
	ill.Lines[0].Type = api.Choice
	twice := packOf(t, good)
	twice.Lines[1].Name = "wage"
	circle := packOf(t, good)
	circle.Lines[3].Clauses[0].Body = line(4)
	both := packOf(t, put(t, circle))
	both.Checks[0].Text = ""
	more := slices.Concat(good, []byte{0})
	spoilt := slices.Clone(good)
	spoilt[len(spoilt)-1] ^= 1
	files := []api.File{journal(t, 7, []byte("of another pack")), sure("note", []byte("kept"))}
	for _, x := range []struct {
		what string
		b    []byte
		want api.Errno
	}{
		{"nothing", nil, api.ErrPackShort}, {"no pack", []byte("no pack"), api.ErrPackForm}, {"bytes behind", more, api.ErrPackMore}, {"another sum", spoilt, api.ErrPackSum}, {"too long", make([]byte, api.MaxPack+1), api.ErrPackBound},
		{"a line's type", put(t, ill), api.ErrTypeLine}, {"a name twice", put(t, twice), api.ErrTypeTwice}, {"all zero", put(t, api.Pack{}), api.ErrTypeSize},
		{"a cycle", put(t, circle), api.ErrGraphCycle}, {"a cycle, and no text", put(t, both), api.ErrTypeName},
	} {
		for _, l := range [][]api.File{nil, files} { // the pack's error is ahead of the journal's
			d, e := desk.Open(x.b, l)
			if e != x.want {
				t.Errorf("%s: error %d, want %d", x.what, int(e), int(x.want))
			}
			refusesAll(t, x.what, d, l)
		}
	}
}

func TestP20_1JournalOfAnotherPack(t *testing.T) {
	b := compiled(t, simple)
	files := []api.File{journal(t, pack.Sum(b)+1, nil), sure("note", []byte("kept"))}
	d, e := desk.Open(b, files)
	if e != api.ErrDrawerOther {
		t.Errorf("error %d", int(e))
	}
	refusesAll(t, "another pack's journal", d, files)
}

// Files that leave no room for a journal: the machine stands, the desk is down.
func TestP20_1Down(t *testing.T) {
	b := compiled(t, simple)
	files := others(api.MaxFiles)
	d, e := desk.Open(b, files)
	if d == nil || e != api.ErrDiskFull {
		t.Fatalf("error %d", int(e))
	}
	for range 2 {
		for kind := 1; kind < api.CmdReopen; kind++ {
			if r := d.Do(api.Cmd{Kind: kind, Name: "main"}); !sameReply(r, api.Reply{Err: api.ErrDeskDown}) {
				t.Errorf("kind %d: %s", kind, brief(r))
			}
		}
		for _, kind := range []int{-1, 0, 26} {
			if r := d.Do(cmd(kind)); !sameReply(r, api.Reply{Err: api.ErrDeskCmd}) {
				t.Errorf("kind %d: %s", kind, brief(r))
			}
		}
		if d.Branch() != "" || d.Up() || !sameFiles(d.Files(), files) {
			t.Errorf("branch %q, up %t, %d files", d.Branch(), d.Up(), len(d.Files()))
		}
		if r := d.Do(reopening(1)); !sameReply(r, api.Reply{Err: api.ErrDeskSave}) {
			t.Errorf("reopen: %s", brief(r))
		}
	}
	opened(t, b, others(api.MaxFiles-1)...)
}

// Unsure bytes of files that a desk is opened over, and a log that is none, are seen to by the opening.
func TestP20_1WhatOpeningLeaves(t *testing.T) {
	b := compiled(t, simple)
	mine := journal(t, pack.Sum(b), nil, record(1, cells{0: cent(5)}, nil, 0, ""), record(5, nil, nil, 0, "a"))
	torn := mine
	torn.Data, torn.Synced = append(slices.Clone(mine.Data), "torn"...), 3
	d := opened(t, b, sure("note", []byte("kept")), torn, sure("log-00000009", []byte("torn")))
	if !sameFiles(d.Files(), []api.File{mine, sure("note", []byte("kept"))}) {
		t.Errorf("files %v", d.Files())
	}
	if r := d.Do(ask(0, 0)); r.Val != cent(5) {
		t.Errorf("wage: %v", r.Val)
	}
}

func TestP20_2EmptyDesk(t *testing.T) {
	b := compiled(t, simple)
	for _, files := range [][]api.File{nil, {}, others(3)} {
		w := &bench{t, packOf(t, b), opened(t, b, files...)}
		if w.Branch() != "main" {
			t.Errorf("branch %q", w.Branch())
		}
		w.is("names", cmd(api.CmdNames), api.Reply{Names: []string{"main"}})
		f := needed
		vals := []api.Value{blank, blank, blank, blank, blank, blank, blank, blank, f, no, no, no, f}
		w.is("all", cmd(api.CmdAll), api.Reply{Vals: vals, Count: 5}) // three credits, tax, rich
		w.errs("undo", cmd(api.CmdUndo), api.ErrHistUndo)
		w.errs("redo", cmd(api.CmdRedo), api.ErrHistRedo)
		want := append(slices.Clone(files), journal(t, pack.Sum(b), nil))
		slices.SortFunc(want, func(a, b api.File) int { return map[bool]int{true: -1, false: 1}[a.Name < b.Name] })
		if !sameFiles(w.Files(), want) {
			t.Errorf("files %v, want %v", w.Files(), want)
		}
	}
}

// Desks of one pack are told apart by nothing but what they are told.
func TestP20_2DesksApart(t *testing.T) {
	b := compiled(t, simple)
	one, two := opened(t, b), opened(t, b)
	one.Do(setTo(0, 0, cent(1)))
	if r := two.Do(ask(0, 0)); r.Val != blank {
		t.Errorf("the other desk: %v", r.Val)
	}
	if len(one.Files()[0].Data) == len(two.Files()[0].Data) {
		t.Error("one disk for both")
	}
}

// P21.2: just the bytes of packs that Check takes and that have no cycle are taken.
func TestP21_2Load(t *testing.T) {
	seen := tally{}
	r := newRand(2102)
	for range 400 {
		p := madePack(r, 8)
		switch r.Intn(4) {
		case 0:
			l := &p.Lines[r.Intn(len(p.Lines))]
			for i := range l.Clauses {
				l.Clauses[i].Body = line(pick(r, slices.IndexFunc(p.Lines, func(x api.Line) bool { return x.Name == l.Name }), r.Intn(len(p.Lines))))
			}
		case 1:
			p.Lines[r.Intn(len(p.Lines))].Group = r.Intn(4) - 1
		}
		b := put(t, p)
		if r.Intn(6) == 0 {
			b[r.Intn(len(b))] ^= byte(1 + r.Intn(255))
		}
		q, _, e := pack.Get(b)
		if e == api.OK {
			if back, f := pack.Put(q); f != api.OK || !slices.Equal(back, b) {
				t.Fatal("the bytes aren't those of the pack")
			}
			if _, e = types.Check(q); e == api.OK {
				e = cycleOf(q)
			}
		}
		d, got := desk.Open(b, nil)
		if got != e || d == nil || d.Up() != (e == api.OK) {
			t.Fatalf("error %d, want %d", int(got), int(e))
		}
		if e != api.OK {
			refusesAll(t, "refused", d, nil)
		}
		seen[fmt.Sprint("error ", int(e)/10)]++
	}
	seen.atLeast(t, 20, "error 0", "error 6", "error 7", "error 8")
}

// A journal whose sum fits, and whose records don't: it can't be replayed, whatever they say behind the first that fails.
func TestP20_1CantBeReplayed(t *testing.T) {
	b := compiled(t, simple)
	bad := api.Record{Kind: 9}
	good := record(1, cells{0: cent(5)}, nil, 0, "")
	for _, l := range [][]api.Record{{bad}, {good, bad}, {bad, good}} {
		files := []api.File{journal(t, pack.Sum(b), nil, l...)}
		d, e := desk.Open(b, files)
		if e != api.ErrDrawerOther {
			t.Errorf("error %d", int(e))
		}
		refusesAll(t, "a record that is none", d, files)
	}
	files := []api.File{journal(t, pack.Sum(b), branch.New(nil).Put(), good)}
	if r := opened(t, b, files...).Do(ask(0, 0)); r.Val != cent(5) {
		t.Errorf("wage: %v", r.Val)
	}
}
