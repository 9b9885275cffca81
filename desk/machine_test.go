package desk_test

import (
	"fmt"
	"slices"
	"testing"

	"levy/api"
	"levy/desk"
	"levy/pack"
)

func TestP20_12Crash(t *testing.T) {
	w := benchOf(t, simple).all("set wage 1.00")
	files := w.Files()
	w.errs("crash", cmd(api.CmdCrash), api.OK)
	for kind := 1; kind < api.CmdReopen; kind++ {
		w.errs(fmt.Sprint("down, kind ", kind), api.Cmd{Kind: kind, N: -1, Row: -1}, api.ErrDeskDown)
	}
	if w.Up() || w.Branch() != "" || !sameFiles(w.Files(), files) {
		t.Errorf("down: up %t, branch %q, %d files", w.Up(), w.Branch(), len(w.Files()))
	}
	w.errs("reopen", reopening(), api.OK)
	if !w.Up() || w.Branch() != "main" {
		t.Errorf("up %t, branch %q", w.Up(), w.Branch())
	}
	w.is("wage", ask(0, 0), api.Reply{Val: cent(100)})
}

func TestP20_12Rigs(t *testing.T) {
	w := benchOf(t, simple)
	w.errs("arm", counted(api.CmdArm, -1), api.ErrDeskCmd)
	w.errs("fail", failing(-1, 1), api.ErrDeskCmd)
	w.errs("fail", failing(1, -1), api.ErrDeskCmd)
	w.errs("a rig that was refused isn't set", setTo(0, 0, cent(1)), api.OK)
	w.errs("fail none", failing(0, 0), api.OK)
	w.errs("no call fails", setTo(0, 0, cent(1)), api.OK)
	w.errs("fail", failing(2, 1), api.OK)
	w.errs("a refused one leaves it", failing(-1, 1), api.ErrDeskCmd)
	w.errs("two calls go on", setTo(0, 0, cent(2)), api.OK)
	w.errs("the third doesn't", setTo(0, 0, cent(3)), api.ErrDeskSave)
	w.errs("stuck", setTo(0, 0, cent(4)), api.ErrDeskSave)
	w.errs("arm", counted(api.CmdArm, 0), api.OK)
	w.errs("stuck, no call is made", setTo(0, 0, cent(4)), api.ErrDeskSave)
	w.errs("reopen: nothing was laid down, so no call is made", reopening(), api.OK)
	w.errs("the rig stays set", setTo(0, 0, cent(5)), api.ErrDeskDown)
	w.errs("reopen", reopening(9), api.OK)
	w.is("wage", ask(0, 0), api.Reply{Val: cent(2)})
	w.errs("a fall takes the rigs away", setTo(0, 0, cent(5)), api.OK)
}

// Reopen while the machine stands: what isn't sure isn't lost, List counts for nothing, and the opening may fail.
func TestP20_12ReopenStanding(t *testing.T) {
	stuck := func() *bench { // a whole record that isn't sure
		w := benchOf(t, simple).all("set wage 1.00")
		w.Do(failing(1, 1))
		w.errs("the sync fails", setTo(0, 0, cent(200)), api.ErrDeskSave)
		return w
	}
	w := stuck()
	w.errs("reopen", reopening(0, 0), api.OK)
	w.is("it was brought", ask(0, 0), api.Reply{Val: cent(200)})
	w.is("one file, all sure", cmd(api.CmdNames), api.Reply{Names: []string{"main"}})
	if f := w.Files()[0]; f.Synced != len(f.Data) {
		t.Error("the opening made nothing sure")
	}

	w = stuck()
	w.Do(failing(0, 2))
	for range 2 {
		w.errs("the sync fails again", reopening(), api.ErrDeskSave)
		if w.Up() || w.Branch() != "" {
			t.Error("up")
		}
		w.errs("down", ask(0, 0), api.ErrDeskDown)
	}
	w.errs("and goes on", reopening(), api.OK)
	w.is("it was brought", ask(0, 0), api.Reply{Val: cent(200)})

	w = stuck()
	w.Do(counted(api.CmdArm, 0))
	w.errs("the machine falls in it", reopening(), api.ErrDeskDown)
	if w.Up() {
		t.Error("up")
	}
	w.errs("what survives is told now", reopening(0), api.OK)
	w.is("it is gone", ask(0, 0), api.Reply{Val: cent(100)})

	w = stuck()
	w.Do(counted(api.CmdArm, 0))
	w.errs("the machine falls in it", reopening(), api.ErrDeskDown)
	w.errs("what survives is told now", reopening(99), api.OK)
	w.is("it was brought", ask(0, 0), api.Reply{Val: cent(200)})
	w.errs("undo", cmd(api.CmdUndo), api.OK)
	w.is("behind the others", ask(0, 0), api.Reply{Val: cent(100)})
}

// Reopen while the desk is up brings all that there was, and memos that are fresh.
func TestP20_12ReopenUp(t *testing.T) {
	w := benchOf(t, simple).all("set wage 1.00;set filing single;fork a;switch a;set wage 2.00;undo;query tax")
	files := w.Files()
	w.errs("reopen", reopening(1, 2, 3), api.OK)
	if !sameFiles(w.Files(), files) || w.Branch() != "a" || !w.Up() {
		t.Error("another desk")
	}
	w.is("tax", ask(4, 0), api.Reply{Val: cent(10), Count: 1})
	w.all("redo")
	w.is("wage", ask(0, 0), api.Reply{Val: cent(200)})
}

// How many bytes of a torn record survive a fall.
func TestP20_12WhatSurvives(t *testing.T) {
	for kept := range 40 {
		w := benchOf(t, simple).all("set wage 1.00;add kid")
		w.Do(failing(1, 1))
		w.errs("the sync fails", setTo(0, 0, cent(200)), api.ErrDeskSave)
		w.all("crash")
		w.errs("reopen", reopening(kept), api.OK)
		want := cent(100)
		if kept >= 33 { // the piece has so many bytes
			want = cent(200)
		}
		w.is(fmt.Sprint(kept, " bytes"), ask(0, 0), api.Reply{Val: want})
	}
}

func TestP20_13BranchUpFiles(t *testing.T) {
	b := compiled(t, simple)
	d := opened(t, b, others(2)...)
	if d.Branch() != "main" || len(d.Files()) != 3 || d.Files()[0].Name != "log-00000001" {
		t.Errorf("branch %q, %d files", d.Branch(), len(d.Files()))
	}
	d.Do(named(api.CmdFork, "a"))
	d.Do(named(api.CmdSwitch, "a"))
	d.Do(failing(1, 1))
	d.Do(setTo(0, 0, cent(1)))
	if f := d.Files()[0]; d.Branch() != "a" || len(f.Data)-f.Synced != 33 {
		t.Errorf("branch %q, %d bytes that aren't sure", d.Branch(), len(f.Data)-f.Synced)
	}
	files := d.Files()
	d.Do(cmd(api.CmdCrash))
	if d.Branch() != "" || d.Up() || !sameFiles(d.Files(), files) {
		t.Errorf("down: branch %q", d.Branch())
	}
}

// Disks that can't take a summary: from the seventeenth record on nothing is saved.
func TestP20_6NoRoomToFold(t *testing.T) {
	data := compiled(t, simple)
	last := journal(t, pack.Sum(data), nil)
	last.Name = "log-99999999"
	for what, files := range map[string][]api.File{"the last generation": {last}, "as many files as may be": others(api.MaxFiles - 1)} {
		p := newPair(t, data, files...)
		for i := range 20 {
			want := api.OK
			if i >= 16 {
				want = api.ErrDeskSave
			}
			if r := p.do(setTo(0, 0, cent(int64(i)))); r.Err != want {
				t.Errorf("%s: behind %d commands: error %d", what, i, int(r.Err))
			}
		}
		for _, c := range []api.Cmd{reopening(), ask(0, 0), setTo(0, 0, cent(99)), cmd(api.CmdCrash), reopening(), setTo(0, 0, cent(99)), ask(0, 0)} {
			p.do(c)
		}
		if r := p.do(ask(0, 0)); r.Val != cent(15) {
			t.Errorf("%s: wage %v", what, r.Val)
		}
	}
}

// A desk that Open didn't make answers all the same: it refuses.
func TestP20_13NoDesk(t *testing.T) {
	var none *desk.Desk
	for _, d := range []*desk.Desk{none, new(desk.Desk)} {
		if d.Up() || d.Branch() != "" || len(d.Files()) != 0 || d.Do(cmd(api.CmdAll)).Err != api.ErrDeskPack || d.Do(reopening()).Err != api.ErrDeskPack {
			t.Error("it is up")
		}
	}
}

// life: a desk, and what it may be when it is opened again, as P21.6 has it: told, and behind a refusal perhaps one command more.
type life struct {
	*pair
	told  *book
	maybe *book // nil: nothing was refused since the desk was opened
}

// do does a command and notes what may be there behind it.
func (l *life) do(c api.Cmd, seen tally) api.Reply {
	t := l.t
	t.Helper()
	up := l.desk.Up()
	ahead := l.told.clone()
	r := l.pair.do(c)
	changes := c.Kind <= api.CmdMerge || c.Kind == api.CmdImport
	switch {
	case c.Kind == api.CmdReopen && r.Err == api.OK:
		switch got := l.model.book.state(); {
		case got == l.told.state():
			seen["told"]++
		case l.maybe != nil && got == l.maybe.state():
			seen["one more"]++
		default:
			t.Fatalf("%+v: it is\n%s\nand was told\n%s", c, got, l.told.state())
		}
		l.told, l.maybe = l.model.book.clone(), nil
	case changes && up && r.Err == api.OK:
		l.told = l.model.book.clone()
	case changes && up && (r.Err == api.ErrDeskSave || r.Err == api.ErrDeskDown) && l.maybe == nil:
		// What the command would have made, by a desk whose disk doesn't fail.
		other, _ := modelAt(t, put(t, l.model.pack), nil)
		other.book = ahead
		for _, name := range ahead.names() {
			other.memos[name] = other.freshMemo()
		}
		if e := other.do(c).Err; e != api.OK {
			t.Fatalf("%+v: error %d, but refused for the saving's sake", c, int(e))
		}
		l.maybe = other.book
	}
	if up && l.desk.Up() && l.model.book.state() != l.told.state() {
		t.Fatalf("%+v: it shows what wasn't told", c)
	}
	return r
}

func newLife(t *testing.T, data []byte) *life {
	t.Helper()
	return &life{pair: newPair(t, data), told: newBook()}
}

// Many lives of one desk, by chance.
func TestP21_6ByChance(t *testing.T) {
	seen := tally{}
	eachPair(t, 2106, 60, 8, true, func(p *pair, d *director) {
		l := newLife(t, put(t, d.pack))
		for range 300 {
			c := d.any()
			r := l.do(c, seen)
			d.noted(r)
			if r.Err == api.ErrDeskSave || r.Err == api.ErrDeskDown {
				seen[fmt.Sprint("error ", int(r.Err))]++
			}
		}
		l.do(cmd(api.CmdCrash), seen)
		l.do(reopening(d.Intn(99)), seen)
	})
	seen.atLeast(t, 30, "told", "one more", "error 207", "error 208")
}

// script: commands that are laid down, more than two folds of them.
func script(t *testing.T) []api.Cmd {
	t.Helper()
	w := benchOf(t, simple)
	l := []api.Cmd{setTo(0, 0, cent(100)), group(api.CmdAdd, 0, 0), setTo(2, 0, num(9)), named(api.CmdFork, "a"), named(api.CmdSwitch, "a"), setTo(0, 0, cent(200)), named(api.CmdSwitch, "main"), named(api.CmdMerge, "a"), cmd(api.CmdUndo), cmd(api.CmdRedo), counted(api.CmdForget, 1), named(api.CmdDelete, "a"), group(api.CmdDrop, 0, 0), {Kind: api.CmdClear}}
	for i := range 8 {
		l = append(l, setTo(0, 0, cent(int64(i))), cmd(api.CmdUndo))
	}
	l = append(l, importing(w.Do(cmd(api.CmdSheet)).Pages), named(api.CmdFork, "b"), setTo(1, 0, option(1)))
	for _, c := range l {
		if r := w.Do(c); r.Err != api.OK {
			t.Fatalf("%+v: error %d", c, int(r.Err))
		}
	}
	if w.Files()[0].Name != "log-00000003" {
		t.Fatalf("%s, %d commands", w.Files()[0].Name, len(l))
	}
	return l
}

// A fall at each unit of a script, with several numbers of bytes that survive, then more commands and another fall.
func TestP21_6FallsAtEachUnit(t *testing.T) {
	l, data, seen := script(t), compiled(t, simple), tally{}
	for units := 0; ; units++ {
		kept := [][]int{nil, {units % 40}, {99}, {5, 99}, {99}}[units%5]
		a := newLife(t, data)
		a.do(counted(api.CmdArm, units), seen)
		fell := slices.ContainsFunc(l, func(c api.Cmd) bool { return a.do(c, seen).Err != api.OK })
		if !fell {
			if units < 1000 {
				t.Errorf("no fall behind %d units", units)
			}
			break
		}
		a.do(reopening(kept...), seen)
		for _, c := range []api.Cmd{setTo(0, 0, cent(7)), named(api.CmdFork, "z"), cmd(api.CmdCrash), reopening()} {
			a.do(c, seen)
		}
		if a.desk.Do(ask(0, 0)).Val != cent(7) {
			t.Fatalf("%d units: what was told behind the fall is gone", units)
		}
	}
	seen.atLeast(t, 20, "told", "one more")
}

// Each call of the disk fails, by ones and more; then the desk is opened again, behind a fall or without one.
func TestP21_6CallsThatFail(t *testing.T) {
	l, data, seen := script(t), compiled(t, simple), tally{}
	for after := range 76 {
		for calls := 1; calls < 4; calls++ {
			for _, kept := range [][]int{{20}, {99}, {-1}} {
				a := newLife(t, data)
				a.do(failing(after, calls), seen)
				for _, c := range l {
					a.do(c, seen) // those behind the first that is refused are refused too, or have errors of their own
				}
				if len(kept) == 0 || kept[0] >= 0 {
					a.do(cmd(api.CmdCrash), seen)
				}
				for a.do(reopening(kept...), seen).Err != api.OK {
				}
				a.do(failing(0, 0), seen)
				if r := a.do(named(api.CmdFork, "z"), seen); r.Err != api.OK {
					t.Fatalf("fork: error %d", int(r.Err))
				}
			}
		}
	}
	seen.atLeast(t, 50, "told", "one more")
}
