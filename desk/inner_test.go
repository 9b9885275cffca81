package desk

import (
	"testing"

	"levy/api"
	"levy/drawer"
)

// What no caller can bring about, but the chapter says: the desk's own disk is changed behind its back.

const inner = `pack inner 2024
options size: small, big
input c cents
input o size
line twice cents
  is c + c
`

func innerDesk(t *testing.T) *Desk {
	t.Helper()
	b, err := Compile(inner)
	d, e := Open(b, nil)
	if err != nil || e != api.OK {
		t.Fatal(err, e)
	}
	return d
}

// other lays another journal on a desk's disk.
func other(t *testing.T, d *Desk, sum uint32, records ...api.Record) {
	t.Helper()
	d.disk.Remove("log-00000001")
	w, _, _, e := drawer.Open(d.disk, sum)
	if e != api.OK {
		t.Fatal(e)
	}
	for _, r := range records {
		if e := w.Put(r); e != api.OK {
			t.Fatal(e)
		}
	}
}

func TestP20_12ReopenRefuses(t *testing.T) {
	for _, x := range []struct {
		what    string
		other   uint32
		records []api.Record
		want    api.Errno
	}{
		{"its own journal", 0, []api.Record{{Kind: 5, Body: []byte("a")}}, api.OK},
		{"another pack's journal", 1, nil, api.ErrDrawerOther},
		{"what can't be replayed", 0, []api.Record{{Kind: 6, Body: []byte("a")}}, api.ErrDrawerOther},
	} {
		for _, crashed := range []bool{false, true} {
			d := innerDesk(t)
			other(t, d, d.form.sum+x.other, x.records...)
			if crashed {
				d.Do(api.Cmd{Kind: api.CmdCrash})
			}
			files := len(d.Files())
			if r := d.Do(api.Cmd{Kind: api.CmdReopen}); r.Err != x.want {
				t.Errorf("%s: error %d", x.what, int(r.Err))
			}
			if x.want == api.OK {
				continue
			}
			for _, kind := range []int{0, api.CmdAll, api.CmdReopen, api.CmdSet} {
				if r := d.Do(api.Cmd{Kind: kind}); r.Err != api.ErrDeskPack {
					t.Errorf("%s: kind %d: error %d", x.what, kind, int(r.Err))
				}
			}
			if d.Up() || d.Branch() != "" || len(d.Files()) != files {
				t.Errorf("%s: up %t, branch %q", x.what, d.Up(), d.Branch())
			}
		}
	}
}

// There is a memo for each branch, and no other.
func TestP20_6MemosOfBranches(t *testing.T) {
	d := innerDesk(t)
	for _, c := range []api.Cmd{{Kind: api.CmdFork, Name: "a"}, {Kind: api.CmdFork, Name: "b"}, {Kind: api.CmdDelete, Name: "a"}, {Kind: api.CmdReopen}, {Kind: api.CmdSwitch, Name: "b"}} {
		if r := d.Do(c); r.Err != api.OK {
			t.Fatal(c, r.Err)
		}
		names := d.book.Names()
		for _, name := range names {
			if d.memos[name] == nil {
				t.Errorf("%+v: no memo for %s", c, name)
			}
		}
		if len(d.memos) != len(names) {
			t.Errorf("%+v: %d memos for %d branches", c, len(d.memos), len(names))
		}
	}
	if d.Do(api.Cmd{Kind: api.CmdCrash}); d.memory.memos != nil || d.memory.book != nil || d.memory.drawer != nil {
		t.Error("a fall has left something in memory")
	}
}

// A curve's function beyond what is a value of cents.
func TestP20_11Beyond(t *testing.T) {
	d := innerDesk(t)
	f := d.along(api.Cmd{Line: 0, List: []int{2, 0, 1}})
	for x, want := range map[int64]api.Value{
		5: {Kind: api.Cents, Num: 10}, api.MaxCents + 1: {Kind: api.Fault, Num: api.Over}, -api.MaxCents - 1: {Kind: api.Fault, Num: api.Over}, api.MaxCents: {Kind: api.Fault, Num: api.Over}, -1 << 63: {Kind: api.Fault, Num: api.Over},
	} {
		if got := f(x); got != want {
			t.Errorf("%d: %v, want %v", x, got, want)
		}
	}
}

// Values that no cell of a return holds.
func TestP20_18OddValues(t *testing.T) {
	d := innerDesk(t)
	for _, x := range []struct {
		cell uint32
		v    api.Value
		want string
	}{
		{1, api.Value{Kind: api.Choice, Num: 1}, "big"}, {1, api.Value{Kind: api.Choice, Num: 2}, "2"}, {0, api.Value{Kind: api.Choice, Num: 1}, "1"},
		{0, api.Value{Kind: api.Fault, Num: api.Over}, "fault over"}, {0, api.Value{Kind: api.Fault, Num: api.Zero}, "fault zero"}, {0, api.Value{Kind: api.Fault, Num: api.Needed}, "fault needed"}, {0, api.Value{Kind: api.Fault, Num: api.Range}, "fault range"}, {0, api.Value{Kind: api.Fault, Num: api.Wrong}, "fault wrong"},
	} {
		if got := d.form.valueText(x.cell, x.v); got != x.want {
			t.Errorf("%v at %d: %q, want %q", x.v, x.cell, got, x.want)
		}
	}
}
