package desk_test

import (
	"encoding/hex"
	"fmt"
	"slices"
	"strings"
	"testing"

	"levy/api"
	"levy/branch"
	"levy/desk"
	"levy/drawer"
	"levy/graph"
	"levy/pack"
	"levy/trie"
)

func cycleOf(p api.Pack) api.Errno {
	_, l, e := graph.New(p)
	if (e == api.ErrGraphCycle) != (len(l) > 0) {
		return -1
	}
	return e
}

// held: what the journal on a desk's disk holds.
func held(t *testing.T, d *desk.Desk, sum uint32) ([]byte, []api.Record) {
	t.Helper()
	k, e := drawer.NewDisk(d.Files())
	if e != api.OK {
		t.Fatalf("NewDisk: error %d", int(e))
	}
	_, summary, records, e := drawer.Open(k, sum)
	if e != api.OK {
		t.Fatalf("Open: error %d", int(e))
	}
	return summary, records
}

// unhex: bytes told in hex digits with blanks between.
func unhex(t *testing.T, s string) []byte {
	t.Helper()
	b, err := hex.DecodeString(strings.ReplaceAll(s, " ", ""))
	if err != nil {
		t.Fatal(err)
	}
	return b
}

func TestP20_3Records(t *testing.T) {
	w := benchOf(t, simple)
	sum := pack.Sum(put(t, w.p))
	for i, x := range []struct {
		line string
		kind byte
		body string
	}{
		{"set wage 2.58", 1, "01 00 00 00 00 00 01 02 01 00 00 00 00 00 00"},
		{"set wage -0.02", 1, "01 00 00 00 00 00 01 fe ff ff ff ff ff ff ff"},
		{"set wage -0.02", 1, "00 00"},
		{"set filing joint", 1, "01 00 01 00 00 00 05 01 00 00 00 00 00 00 00"},
		{"clear wage", 1, "01 00 00 00 00 00 00 00 00 00 00 00 00 00 00"},
		{"add kid", 1, "01 00 09 00 00 00 03 01 00 00 00 00 00 00 00"},
		{"set age 0 9", 1, "01 00 02 00 00 00 02 09 00 00 00 00 00 00 00"},
		{"fork what", 5, "77 68 61 74"},
		{"drop kid 0", 1, "02 00 02 00 00 00 00 00 00 00 00 00 00 00 00 09 00 00 00 00 00 00 00 00 00 00 00 00"},
		{"undo", 2, ""},
		{"redo", 3, ""},
		{"forget 2", 4, "02 00"},
		{"switch what", 6, "77 68 61 74"},
		{"set wage 99999999999.99", 1, "01 00 00 00 00 00 01 ff 9f 72 4e 18 09 00 00"},
		{"switch main", 6, "6d 61 69 6e"},
	} {
		w.all(x.line)
		summary, l := held(t, w.Desk, sum)
		if len(summary) != 0 || len(l) != i+1 || l[i].Kind != x.kind || !slices.Equal(l[i].Body, unhex(t, x.body)) {
			t.Fatalf("%s: %d records, the last %x", x.line, len(l), l[len(l)-1])
		}
	}
}

// A merge and an import are changes as others are; a merge tells all that differs.
func TestP20_3MergeImportDelete(t *testing.T) {
	w := benchOf(t, simple)
	sum := pack.Sum(put(t, w.p))
	w.all("fork a;switch a;add kid;set wage 0.01;set age 0 3")
	pages := w.tell("sheet").Pages
	w.all("switch main;set filing single;merge a")
	_, l := held(t, w.Desk, sum)
	merged := "03 00 00 00 00 00 01 01 00 00 00 00 00 00 00 02 00 00 00 02 03 00 00 00 00 00 00 00 09 00 00 00 03 01 00 00 00 00 00 00 00"
	if r := l[len(l)-1]; r.Kind != 1 || !slices.Equal(r.Body, unhex(t, merged)) {
		t.Errorf("merge: %x", r)
	}
	if r := w.Do(importing(pages)); r.Err != api.OK {
		t.Fatalf("import: error %d", int(r.Err))
	}
	w.all("delete a")
	_, l = held(t, w.Desk, sum)
	if r := l[len(l)-2]; r.Kind != 1 || !slices.Equal(r.Body, unhex(t, "01 00 01 00 00 00 00 00 00 00 00 00 00 00 00")) {
		t.Errorf("import: %x", r)
	}
	if r := l[len(l)-1]; r.Kind != 7 || string(r.Body) != "a" {
		t.Errorf("delete: %x", r)
	}
}

// Refused commands and questions leave nothing in the journal.
func TestP20_3NothingElse(t *testing.T) {
	w := benchOf(t, simple).all("set wage 1.00")
	files := w.Files()
	d := &director{Rand: newRand(203), pack: w.p}
	for range 2000 {
		c := d.asking()
		w.Do(c)
	}
	for _, s := range []string{"redo", "set tax 1.00", "forget 2", "switch no", "delete main", "merge main", "add kid;drop kid 0;drop kid 0"} {
		if s[0] == 'a' {
			w.all("add kid;drop kid 0")
			files = w.Files()
			s = "drop kid 0"
		}
		if r := w.tell(s); r.Err == api.OK {
			t.Errorf("%s: done", s)
		}
	}
	if !sameFiles(w.Files(), files) {
		t.Error("the disk has changed")
	}
}

// The summary is the book ahead of the command that folds: the one that finds sixteen records.
func TestP20_3Fold(t *testing.T) {
	w := benchOf(t, simple)
	sum := pack.Sum(put(t, w.p))
	b := branch.New(nil)
	folds := 0
	for i := range 31 {
		before := b.Put()
		if i == 5 {
			w.all("fork what")
			b.Fork("what")
		} else {
			w.all(fmt.Sprintf("set wage %d.00", i))
			b.Change(b.Inputs().Put(0, cent(int64(i*100))))
		}
		summary, l := held(t, w.Desk, sum)
		if len(l) != i%16+1 {
			t.Fatalf("behind %d commands: %d records", i+1, len(l))
		}
		if i >= 16 && i%16 == 0 {
			folds++
			if !slices.Equal(summary, before) {
				t.Fatalf("behind %d commands: summary %x, want %x", i+1, summary, before)
			}
		}
		if name := w.Files()[0].Name; name != fmt.Sprintf("log-%08d", 1+i/16) {
			t.Fatalf("behind %d commands: %s", i+1, name)
		}
	}
	if folds != 1 {
		t.Errorf("%d folds", folds)
	}
	w.all("undo")
	full := w.Files()
	w.errs("no fold where the book refuses", cmd(api.CmdDelete), api.ErrBranchNone)
	w.tell("query wage")
	if !sameFiles(w.Files(), full) {
		t.Error("a fold without a record behind it")
	}
	if w.all("redo"); w.Files()[0].Name == full[0].Name {
		t.Error("no fold behind sixteen records")
	}
}

// over: a journal over the pack simple: what Open tells of it.
func over(t *testing.T, summary []byte, l ...api.Record) (*desk.Desk, api.Errno) {
	t.Helper()
	b := compiled(t, simple)
	return desk.Open(b, []api.File{journal(t, pack.Sum(b), summary, l...)})
}

// chg: a change's record, its body told in hex.
func chg(t *testing.T, body string) api.Record {
	t.Helper()
	return api.Record{Kind: 1, Body: unhex(t, body)}
}

const (
	zero8 = " 00 00 00 00 00 00 00 00"
	one8  = " 01 00 00 00 00 00 00 00"
)

func TestP20_4CantBeReplayed(t *testing.T) {
	rec := func(kind byte, body string) api.Record { return api.Record{Kind: kind, Body: []byte(body)} }
	wage, none := record(1, cells{0: cent(1)}, nil, 0, ""), record(1, nil, nil, 0, "")
	for _, x := range []struct {
		what string
		l    []api.Record
	}{
		{"no body", []api.Record{chg(t, "")}},
		{"half a number", []api.Record{chg(t, "00")}},
		{"a byte too many", []api.Record{chg(t, "00 00 00")}},
		{"an item too few", []api.Record{chg(t, "01 00")}},
		{"a byte too few", []api.Record{chg(t, "01 00 00 00 00 00 01 00 00 00 00 00 00 00")}},
		{"an item too many", []api.Record{chg(t, "00 00 00 00 00 00 01"+one8)}},
		{"the number's second byte", []api.Record{chg(t, "01 01 00 00 00 00 01"+one8)}},
		{"cells that fall", []api.Record{chg(t, "02 00 01 00 00 00 05"+one8+"00 00 00 00 01"+one8)}},
		{"a cell twice", []api.Record{chg(t, "02 00 00 00 00 00 01"+one8+"00 00 00 00 01"+one8)}},
		{"the cell 0 twice, blank", []api.Record{chg(t, "02 00 00 00 00 00 00"+zero8+"00 00 00 00 00"+zero8)}},
		{"a cell behind the last", []api.Record{chg(t, "01 00 0d 00 00 00 00"+zero8)}},
		{"the greatest cell", []api.Record{chg(t, "01 00 ff ff ff ff 00"+zero8)}},
		{"a cell's third byte", []api.Record{chg(t, "01 00 00 00 01 00 01"+one8)}},
		{"a blank with a number", []api.Record{chg(t, "01 00 00 00 00 00 00"+one8)}},
		{"a blank with a number, where one stands", []api.Record{wage, chg(t, "01 00 00 00 00 00 00"+one8)}},
		{"a computed cell", []api.Record{chg(t, "01 00 08 00 00 00 01"+one8)}},
		{"a check", []api.Record{chg(t, "01 00 0c 00 00 00 03"+one8)}},
		{"another kind", []api.Record{chg(t, "01 00 00 00 00 00 02"+one8)}},
		{"no kind", []api.Record{chg(t, "01 00 00 00 00 00 ff"+one8)}},
		{"a fault", []api.Record{chg(t, "01 00 00 00 00 00 06"+one8)}},
		{"too many cents", []api.Record{chg(t, "01 00 00 00 00 00 01 00 00 00 00 00 00 00 80")}},
		{"an option that isn't", []api.Record{chg(t, "01 00 01 00 00 00 05 02 00 00 00 00 00 00 00")}},
		{"a flag that isn't set", []api.Record{chg(t, "01 00 09 00 00 00 03"+zero8)}},
		{"a flag of 2", []api.Record{chg(t, "01 00 09 00 00 00 03 02 00 00 00 00 00 00 00")}},
		{"a row that isn't used", []api.Record{chg(t, "01 00 02 00 00 00 02"+one8)}},
		{"a row that isn't used any more", []api.Record{chg(t, "02 00 02 00 00 00 02"+one8+"09 00 00 00 03"+one8), chg(t, "01 00 09 00 00 00 00"+zero8)}},
		{"undo of nothing", []api.Record{rec(2, "")}},
		{"undo with bytes", []api.Record{wage, rec(2, "a")}},
		{"redo of nothing", []api.Record{wage, rec(3, "")}},
		{"redo with bytes", []api.Record{wage, rec(2, ""), rec(3, "\x00")}},
		{"forget of too many", []api.Record{wage, rec(4, "\x02\x00")}},
		{"forget of one byte", []api.Record{wage, rec(4, "\x01")}},
		{"forget of three bytes", []api.Record{wage, rec(4, "\x01\x00\x00")}},
		{"forget of no bytes", []api.Record{wage, rec(4, "")}},
		{"forget's second byte", []api.Record{wage, rec(4, "\x01\x01")}},
		{"fork without a name", []api.Record{rec(5, "")}},
		{"fork of no name", []api.Record{rec(5, "A")}},
		{"fork of main", []api.Record{rec(5, "main")}},
		{"fork of a seventh", []api.Record{rec(5, "a"), rec(5, "b"), rec(5, "c"), rec(5, "d"), rec(5, "e"), rec(5, "f")}},
		{"switch to none", []api.Record{rec(6, "a")}},
		{"delete of none", []api.Record{rec(7, "a")}},
		{"delete of main", []api.Record{rec(7, "main")}},
		{"delete of the current one", []api.Record{rec(5, "a"), rec(6, "a"), rec(7, "a")}},
		{"the kind 0", []api.Record{rec(0, "")}},
		{"the kind 8", []api.Record{rec(8, "")}},
		{"the kind 255", []api.Record{rec(255, "a")}},
		{"more changes than may be undone", slices.Repeat([]api.Record{none}, 33)},
	} {
		d, e := over(t, nil, x.l...)
		if e != api.ErrDrawerOther || d == nil || d.Up() || d.Do(cmd(api.CmdReopen)).Err != api.ErrDeskPack {
			t.Errorf("%s: error %d", x.what, int(e))
		}
	}
}

func TestP20_4CanBeReplayed(t *testing.T) {
	w := record(1, cells{0: cent(1)}, nil, 0, "")
	for _, x := range []struct {
		what string
		l    []api.Record
		want cells
	}{
		{"no records", nil, cells{}},
		{"no cells", []api.Record{chg(t, "00 00")}, cells{}},
		{"a blank that isn't there", []api.Record{chg(t, "01 00 00 00 00 00 00"+zero8)}, cells{}},
		{"a blank at a computed cell", []api.Record{chg(t, "02 00 08 00 00 00 00"+zero8+"0c 00 00 00 00"+zero8)}, cells{}},
		{"the value that is there", []api.Record{w, w}, cells{0: cent(1)}},
		{"taken away", []api.Record{w, chg(t, "01 00 00 00 00 00 00"+zero8)}, cells{}},
		{"a row and its input", []api.Record{chg(t, "02 00 02 00 00 00 02"+one8+"09 00 00 00 03"+one8)}, cells{2: num(1), 9: yes}},
		{"the least cents", []api.Record{record(1, cells{0: cent(-api.MaxCents)}, nil, 0, "")}, cells{0: cent(-api.MaxCents)}},
		{"as many changes as may be undone", slices.Repeat([]api.Record{w}, 32), cells{0: cent(1)}},
		{"undone and redone", []api.Record{w, {Kind: 2}, {Kind: 3}}, cells{0: cent(1)}},
		{"all forgotten", []api.Record{w, {Kind: 4, Body: []byte{1, 0}}}, cells{0: cent(1)}},
		{"nothing forgotten", []api.Record{{Kind: 4, Body: []byte{0, 0}}}, cells{}},
	} {
		d, e := over(t, nil, x.l...)
		if e != api.OK {
			t.Errorf("%s: error %d", x.what, int(e))
			continue
		}
		r := d.Do(cmd(api.CmdAll))
		for cell, v := range r.Vals[:5] {
			if v != x.want[uint32(cell)] {
				t.Errorf("%s: cell %d holds %v, want %v", x.what, cell, v, x.want[uint32(cell)])
			}
		}
	}
}

// led: a book of simple that is led somewhere.
func led(does func(b *branch.Book)) []byte {
	b := branch.New(nil)
	does(b)
	return b.Put()
}

func TestP20_4Summaries(t *testing.T) {
	fit, ill := trie.Empty().Put(0, cent(1)), trie.Empty().Put(2, num(1)) // an input of a row that isn't used
	for _, x := range []struct {
		what    string
		summary []byte
		ok      bool
	}{
		{"no book", []byte("no"), false},
		{"a byte behind", append(branch.New(nil).Put(), 0), false},
		{"an empty book", branch.New(nil).Put(), true},
		{"versions that fit", led(func(b *branch.Book) { b.Change(fit); b.Change(nil); b.Undo(); b.Fork("a") }), true},
		{"the present inputs", led(func(b *branch.Book) { b.Change(ill) }), false},
		{"what can be undone to", led(func(b *branch.Book) { b.Change(fit); b.Change(ill); b.Change(fit) }), false},
		{"the oldest that can be undone to", led(func(b *branch.Book) { b.Change(ill); b.Change(fit); b.Forget(1) }), false},
		{"what can be redone to", led(func(b *branch.Book) { b.Change(fit); b.Change(ill); b.Undo() }), false},
		{"the last that can be redone to", led(func(b *branch.Book) { b.Change(fit); b.Change(fit); b.Change(ill); b.Undo(); b.Undo() }), false},
		{"the base of main", branch.New(ill).Put(), false},
		{"a base, the versions forgotten", led(func(b *branch.Book) {
			b.Change(ill)
			b.Fork("a")
			b.Undo()
			b.Change(fit)
			b.Switch("a")
			b.Change(fit)
			b.Forget(1)
		}), false},
		{"another branch", led(func(b *branch.Book) { b.Fork("a"); b.Switch("a"); b.Change(ill); b.Switch("main") }), false},
		{"the last branch", led(func(b *branch.Book) {
			b.Fork("a")
			b.Fork("z")
			b.Switch("z")
			b.Change(ill)
			b.Undo()
			b.Switch("main")
		}), false},
		{"a cell that isn't", led(func(b *branch.Book) { b.Change(trie.Empty().Put(13, cent(1))) }), false},
		{"a computed cell", led(func(b *branch.Book) { b.Change(trie.Empty().Put(8, cent(1))) }), false},
	} {
		d, e := over(t, x.summary)
		if (e == api.OK) != x.ok || e != api.OK && e != api.ErrDrawerOther || d.Up() != x.ok {
			t.Errorf("%s: error %d", x.what, int(e))
		}
	}
}

// A desk over a summary is the desk that made it: its branches, what can be undone and redone, and the records behind it do what they say.
func TestP20_4SummaryAndRecords(t *testing.T) {
	fit := trie.Empty().Put(0, cent(1))
	summary := led(func(b *branch.Book) {
		b.Change(fit)
		b.Fork("a")
		b.Change(fit.Put(0, cent(2)))
		b.Undo()
		b.Switch("a")
		b.Change(fit.Put(0, cent(3)))
	})
	b := compiled(t, simple)
	w := &bench{t, packOf(t, b), opened(t, b, journal(t, pack.Sum(b), summary, record(6, nil, nil, 0, "main"), api.Record{Kind: 3}))}
	w.is("names", cmd(api.CmdNames), api.Reply{Names: []string{"a", "main"}})
	w.is("wage", ask(0, 0), api.Reply{Val: cent(2)})
	w.all("undo;undo")
	w.errs("no more", cmd(api.CmdUndo), api.ErrHistUndo)
	w.all("redo;redo")
	w.errs("no more", cmd(api.CmdRedo), api.ErrHistRedo)
	w.all("switch a")
	w.is("wage of a", ask(0, 0), api.Reply{Val: cent(3)})
	w.all("undo")
	w.is("wage of a", ask(0, 0), api.Reply{Val: cent(1)})
	w.errs("a's base", cmd(api.CmdUndo), api.ErrHistUndo)
}

// Memos are fresh behind an opening, those of all branches.
func TestP20_4FreshMemos(t *testing.T) {
	w := benchOf(t, simple).all("set wage 1.00;set filing single;add kid;set age 0 50;fork a;query tax;switch a;query tax;reopen")
	for _, name := range []string{"main", "a"} {
		w.all("switch " + name)
		w.is("tax of "+name, ask(4, 0), api.Reply{Val: cent(10), Count: 2})
		w.is("tax of "+name, ask(4, 0), api.Reply{Val: cent(10)})
	}
}
