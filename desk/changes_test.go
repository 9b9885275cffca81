package desk_test

import (
	"fmt"
	"slices"
	"strings"
	"testing"

	"levy/api"
	"levy/sheet"
	"levy/trie"
)

// used: the pack simple with the row 1 of kid used, and its age.
func used(t *testing.T) *bench {
	t.Helper()
	return benchOf(t, simple).all("add kid;add kid;set age 1 9;drop kid 0")
}

func TestP20_6Set(t *testing.T) {
	w := used(t)
	for _, x := range []struct {
		what      string
		line, row int
		v         api.Value
		want      api.Errno
	}{
		{"no line", 5, 0, cent(1), api.ErrDeskLine}, {"no line", -1, 0, cent(1), api.ErrDeskLine}, {"no row of a line of no group", 0, 1, cent(1), api.ErrDeskLine}, {"no such row", 2, 3, num(1), api.ErrDeskLine}, {"no such row", 2, -1, num(1), api.ErrDeskLine},
		{"a computed line", 4, 0, cent(1), api.ErrDeskInput}, {"a computed line of a row that isn't used", 3, 0, num(1), api.ErrDeskInput}, {"a computed line of a row that is used", 3, 1, cent(1), api.ErrDeskInput},
		{"a row that isn't used", 2, 0, num(1), api.ErrDeskRow}, {"and a value of another kind", 2, 2, cent(1), api.ErrDeskRow},
		{"another kind", 0, 0, num(1), api.ErrDeskValue}, {"another kind in a row", 2, 1, cent(1), api.ErrDeskValue}, {"a blank", 0, 0, blank, api.ErrDeskValue}, {"a blank with a number", 0, 0, val(0, 1), api.ErrDeskValue},
		{"a fault", 0, 0, needed, api.ErrDeskValue}, {"no kind", 0, 0, val(9, 1), api.ErrDeskValue}, {"one cent too many", 0, 0, cent(api.MaxCents + 1), api.ErrDeskValue}, {"one option too many", 1, 0, option(2), api.ErrDeskValue}, {"an option below 0", 1, 0, option(-1), api.ErrDeskValue},
	} {
		files := w.Files()
		w.errs(x.what, setTo(x.line, x.row, x.v), x.want)
		if !sameFiles(w.Files(), files) {
			t.Errorf("%s: the disk has changed", x.what)
		}
	}
	for _, x := range []api.Cmd{setTo(0, 0, cent(api.MaxCents)), setTo(0, 0, cent(-api.MaxCents)), setTo(1, 0, option(1)), setTo(2, 1, num(-api.MaxCount))} {
		w.errs(fmt.Sprint(x), x, api.OK)
		if r := w.Do(ask(x.Line, x.Row)); r.Val != x.Val {
			t.Errorf("%+v: %v", x, r.Val)
		}
	}
}

func TestP20_6Clear(t *testing.T) {
	w := used(t).all("set wage 1.00")
	for _, x := range []struct {
		line, row int
		want      api.Errno
	}{
		{5, 0, api.ErrDeskLine}, {0, 1, api.ErrDeskLine}, {2, 3, api.ErrDeskLine}, {4, 0, api.ErrDeskInput}, {3, 0, api.ErrDeskInput}, {2, 0, api.ErrDeskRow}, {2, 1, 0}, {2, 1, 0}, {0, 0, 0}, {1, 0, 0},
	} {
		w.errs(fmt.Sprint(x), api.Cmd{Kind: api.CmdClear, Line: x.line, Row: x.row, Val: cent(5)}, x.want)
		if r := w.Do(ask(x.line, x.row)); x.want == 0 && r.Val != blank {
			t.Errorf("%v: %v", x, r.Val)
		}
	}
}

func TestP20_6AddDrop(t *testing.T) {
	w := benchOf(t, simple)
	add := func(line int) api.Cmd { return group(api.CmdAdd, line, 2) }
	for row := range 3 {
		w.is("add", add(0), api.Reply{Count: row})
	}
	w.errs("all rows are used", add(0), api.ErrDeskRow)
	w.errs("no group", add(1), api.ErrDeskLine)
	w.errs("no group", add(-1), api.ErrDeskLine)
	w.all("set age 0 1;set age 1 2;set age 2 3")
	for _, x := range []struct {
		line, row int
		want      api.Errno
	}{{1, 0, api.ErrDeskLine}, {-1, 0, api.ErrDeskLine}, {0, 3, api.ErrDeskLine}, {0, -1, api.ErrDeskLine}, {0, 1, 0}, {0, 1, api.ErrDeskRow}, {0, 0, 0}} {
		w.errs(fmt.Sprint("drop ", x), group(api.CmdDrop, x.line, x.row), x.want)
	}
	got := w.Do(cmd(api.CmdAll)).Vals
	if want := []api.Value{blank, blank, num(3)}; !slices.Equal(got[2:5], want) || !slices.Equal(got[9:12], []api.Value{no, no, yes}) {
		t.Errorf("behind drops: %v", got)
	}
	w.is("the least that isn't used", add(0), api.Reply{Count: 0})
	w.is("the age of a row that is new", ask(2, 0), api.Reply{})
	w.all("undo;undo;undo")
	w.is("a drop taken back", ask(2, 1), api.Reply{Val: num(2)})
	w.is("the flag too", ask(3, 1), api.Reply{Val: cent(200000), Count: 1})
}

// Rows of one group, inputs of no group and of other groups stay, where a row is dropped.
func TestP20_6DropOneRow(t *testing.T) {
	w := benchOf(t, kindsText).all("add kid;add kid;add slip;add slip;set kc 0 1.00;set kc 1 2.00;set kf 0 yes;set kf 1 no;set ko 0 joint;set ko 1 single;set c 3.00")
	before := w.Do(cmd(api.CmdAll)).Vals
	w.all("drop kid 1")
	now := w.Do(cmd(api.CmdAll)).Vals
	var l []int
	for cell := range before {
		if before[cell] != now[cell] && cell < 13 || cell >= 20 && cell < 25 && before[cell] != now[cell] {
			l = append(l, cell)
		}
	}
	if !slices.Equal(l, []int{6, 9, 21}) {
		t.Errorf("inputs that differ: %v", l)
	}
}

// One change each, also where nothing differs.
func TestP20_6OneChangeEach(t *testing.T) {
	w := benchOf(t, simple).all("add kid;set wage 1.00;set age 0 3;fork a;switch a;set filing joint;add kid;switch main")
	pages := w.Do(cmd(api.CmdSheet)).Pages
	for _, c := range []api.Cmd{
		setTo(0, 0, cent(100)), setTo(0, 0, cent(200)), {Kind: api.CmdClear, Line: 1}, {Kind: api.CmdClear, Line: 0}, group(api.CmdAdd, 0, 0), group(api.CmdDrop, 0, 0),
		named(api.CmdMerge, "a"), importing(pages), importing(pages),
	} {
		before := w.Do(cmd(api.CmdAll)).Vals
		if r := w.Do(c); r.Err != api.OK {
			t.Fatalf("%+v: error %d", c, int(r.Err))
		}
		then := w.Do(cmd(api.CmdAll)).Vals
		w.all("undo")
		if !slices.Equal(w.Do(cmd(api.CmdAll)).Vals, before) {
			t.Errorf("%+v: undone, it isn't what it was", c)
		}
		w.all("redo")
		if !slices.Equal(w.Do(cmd(api.CmdAll)).Vals, then) {
			t.Errorf("%+v: redone, it isn't what it was", c)
		}
	}
}

// The book's errors come behind the command's own, and ahead of what the drawer says.
func TestP20_6Order(t *testing.T) {
	w := used(t).all(strings.Repeat("clear wage;", 28) + "fork a;switch a;set wage 1.00;switch main")
	pages := w.Do(cmd(api.CmdSheet)).Pages
	full := []api.Cmd{setTo(0, 0, cent(1)), {Kind: api.CmdClear}, group(api.CmdAdd, 0, 0), group(api.CmdDrop, 0, 1), named(api.CmdMerge, "a"), importing(pages)}
	bad := map[api.Errno]api.Cmd{
		api.ErrDeskValue: setTo(0, 0, blank), api.ErrDeskInput: {Kind: api.CmdClear, Line: 4}, api.ErrDeskLine: group(api.CmdAdd, 1, 0), api.ErrDeskRow: group(api.CmdDrop, 0, 0),
		api.ErrBranchNone: named(api.CmdMerge, "b"), api.ErrBranchHere: named(api.CmdMerge, "main"), api.ErrSheetSize: importing(nil),
		api.ErrHistRedo: cmd(api.CmdRedo), api.ErrHistCount: counted(api.CmdForget, 33), api.ErrBranchName: named(api.CmdFork, "A"), api.ErrBranchTwice: named(api.CmdFork, "a"), api.ErrBranchMain: named(api.CmdDelete, "main"),
	}
	for range 2 {
		for _, c := range full {
			w.errs(fmt.Sprintf("%.60v", c), c, api.ErrHistFull)
		}
		for e, c := range bad {
			w.errs(fmt.Sprintf("%.60v", c), c, e)
		}
		w.Do(failing(0, 100)) // from now on no call of the disk goes on
	}
	w.errs("forget", counted(api.CmdForget, 1), api.ErrDeskSave)
	w.errs("stuck", counted(api.CmdForget, 1), api.ErrDeskSave)
	for _, c := range full {
		w.errs(fmt.Sprintf("%.60v, stuck", c), c, api.ErrHistFull)
	}
}

func TestP20_6HistoryCalls(t *testing.T) {
	w := benchOf(t, simple)
	w.errs("undo", cmd(api.CmdUndo), api.ErrHistUndo)
	w.errs("forget", counted(api.CmdForget, 1), api.ErrHistCount)
	w.errs("forget", counted(api.CmdForget, -1), api.ErrHistCount)
	w.errs("forget", counted(api.CmdForget, 1<<16), api.ErrHistCount)
	w.errs("forget nothing", counted(api.CmdForget, 0), api.OK)
	w.all("set wage 1.00;set wage 2.00;set wage 3.00;undo;forget 1")
	w.errs("forget", counted(api.CmdForget, 2), api.ErrHistCount)
	w.all("undo")
	w.is("wage", ask(0, 0), api.Reply{Val: cent(100)})
	w.errs("undo", cmd(api.CmdUndo), api.ErrHistUndo)
	w.all("redo;redo")
	w.is("wage", ask(0, 0), api.Reply{Val: cent(300)})
	w.all("undo;set wage 5.00")
	w.errs("redo", cmd(api.CmdRedo), api.ErrHistRedo)
}

func TestP20_6Branches(t *testing.T) {
	w := benchOf(t, simple).all("set wage 1.00")
	for _, name := range []string{"", "A", "a_b", "ninebytes", "9a", "a b"} {
		w.errs("fork "+name, named(api.CmdFork, name), api.ErrBranchName)
	}
	for _, name := range []string{"a", "b", "c", "d", "eightbyt"} {
		w.errs("fork "+name, named(api.CmdFork, name), api.OK)
		w.errs("fork "+name, named(api.CmdFork, name), api.ErrBranchTwice)
	}
	w.errs("a seventh", named(api.CmdFork, "f"), api.ErrBranchFull)
	w.is("names", cmd(api.CmdNames), api.Reply{Names: []string{"a", "b", "c", "d", "eightbyt", "main"}})
	w.errs("switch", named(api.CmdSwitch, "f"), api.ErrBranchNone)
	w.errs("delete", named(api.CmdDelete, "f"), api.ErrBranchNone)
	w.errs("delete", named(api.CmdDelete, "main"), api.ErrBranchMain)
	w.all("switch a;switch a;set wage 2.00;delete b")
	if w.Branch() != "a" {
		t.Errorf("branch %s", w.Branch())
	}
	w.errs("delete", named(api.CmdDelete, "a"), api.ErrBranchHere)
	w.errs("delete", named(api.CmdDelete, "main"), api.ErrBranchMain)
	w.all("switch main")
	w.is("wage", ask(0, 0), api.Reply{Val: cent(100)})
	w.all("delete a;fork a;switch a")
	w.is("a new one of the old name", ask(0, 0), api.Reply{Val: cent(100)})
	w.errs("undo", cmd(api.CmdUndo), api.ErrHistUndo)
}

// The memo of a branch that is forked is a clone; it goes with the branch.
func TestP20_6Memos(t *testing.T) {
	w := benchOf(t, simple).all("set wage 15000.00;set filing single;add kid;set age 0 3")
	tax := func(what string, v int64, count int) {
		t.Helper()
		w.is(what, ask(4, 0), api.Reply{Val: cent(v), Count: count})
	}
	tax("fresh", -40000, 2)
	w.all("fork a;switch a")
	tax("a clone", -40000, 0)
	w.all("set wage 11000.00")
	tax("the wage alone", -90000, 1)
	w.all("switch main")
	tax("main has its own", -40000, 0)
	w.all("undo;redo")
	tax("taken back and done again", -40000, 0)
	w.all("set wage 5.00;undo")
	tax("set and taken back", -40000, 0)
	w.all("set wage 5.00;query tax;undo")
	tax("asked between", -40000, 1)
	w.all("delete a;set wage 11000.00;fork a;switch a")
	tax("a clone of what is not up to date", -90000, 1)
	w.all("switch main")
	tax("nor is main", -90000, 1)
	w.all("switch a;set age 0 20")
	tax("the age", 110000, 2)
	pages := w.tell("sheet").Pages
	w.all("set age 0 3")
	tax("the age again", -90000, 2)
	w.Do(importing(pages))
	tax("imported", 110000, 2)
	w.all("switch main")
	tax("and main is as it was", -90000, 0)
	w.all("merge a")
	tax("till it is merged", 110000, 2)
}

func TestP20_6Merge(t *testing.T) {
	w := benchOf(t, simple).all("set wage 1.00;add kid;set age 0 3;fork a;switch a;set wage 2.00;set age 0 4;set filing joint;switch main;set age 0 5")
	c := func(cell uint32, v api.Value) api.Change { return api.Change{Id: cell, Has: v != blank, Now: v} }
	want := []api.Conflict{{Base: c(2, num(3)), Ours: c(2, num(5)), Theirs: c(2, num(4))}}
	files := w.Files()
	w.is("a conflict", named(api.CmdMerge, "a"), api.Reply{Err: api.ErrDeskMerge, Conflicts: want})
	if !sameFiles(files, w.Files()) {
		t.Error("the disk has changed")
	}
	w.is("nothing is taken", ask(0, 0), api.Reply{Val: cent(100)})
	w.errs("none", named(api.CmdMerge, "b"), api.ErrBranchNone)
	w.errs("no name", named(api.CmdMerge, ""), api.ErrBranchNone)
	w.errs("itself", named(api.CmdMerge, "main"), api.ErrBranchHere)
	w.all("set age 0 4;merge a")
	got := w.Do(cmd(api.CmdAll)).Vals
	if got[0] != cent(200) || got[1] != option(1) || got[2] != num(4) {
		t.Errorf("merged: %v", got)
	}
	w.all("undo")
	w.is("one change", ask(1, 0), api.Reply{})
	// From a branch main is merged against main's own base: that is empty, not what a was forked with.
	w.all("switch a;set wage 9.00;undo;undo;undo;undo")
	w.is("main has more than its base", named(api.CmdMerge, "main"), api.Reply{Err: api.ErrDeskMerge, Conflicts: []api.Conflict{
		{Base: c(2, blank), Ours: c(2, num(3)), Theirs: c(2, num(4))},
	}})
}

func TestP20_6Import(t *testing.T) {
	w := used(t).all("set wage 5.00")
	pages := w.Do(cmd(api.CmdSheet)).Pages
	empty, e := sheet.Print(w.p, trie.Empty(), benchOf(t, simple).Do(cmd(api.CmdAll)).Vals)
	if e != api.OK {
		t.Fatal("no pages")
	}
	spoilt := []string{strings.Replace(pages[0], "5.00", "6.00", 1)}
	other := benchOf(t, kindsText).Do(cmd(api.CmdSheet)).Pages
	for _, x := range []struct {
		what  string
		pages []string
		want  api.Errno
	}{
		{"no pages", nil, api.ErrSheetSize}, {"a page too many", slices.Repeat(pages, 2), api.ErrSheetHead}, {"a byte", spoilt, api.ErrSheetHead}, {"another pack's", other, api.ErrSheetHead}, {"no page", []string{""}, api.ErrSheetSize}, {"nine", slices.Repeat(pages, 9), api.ErrSheetSize},
	} {
		w.errs(x.what, importing(x.pages), x.want)
	}
	w.errs("all blank", importing(empty), api.OK)
	w.is("all", cmd(api.CmdAll), api.Reply{Vals: benchOf(t, simple).Do(cmd(api.CmdAll)).Vals, Count: 2}) // credit 1, rich
	w.errs("back", importing(pages), api.OK)
	w.is("wage", ask(0, 0), api.Reply{Val: cent(500)})
	w.is("age", ask(2, 1), api.Reply{Val: num(9)})
}

// What the drawer refuses: the reply, and that nothing has changed in memory.
func TestP20_6Saving(t *testing.T) {
	all := func(w *bench) string {
		return fmt.Sprint(w.Branch(), w.Do(cmd(api.CmdNames)).Names, w.Do(cmd(api.CmdAll)).Vals, w.Do(named(api.CmdDiff, "a")).Changes)
	}
	for _, line := range []string{"set wage 9.00", "clear wage", "add kid", "drop kid 0", "undo", "redo", "forget 1", "fork b", "switch a", "delete a", "merge a"} {
		for _, rigged := range []struct {
			rig  api.Cmd
			many int // records ahead
		}{{failing(0, 1), 13}, {failing(1, 1), 13}, {failing(0, 1), 16}, {failing(1, 1), 16}, {failing(2, 1), 16}, {failing(3, 1), 16}, {failing(4, 1), 16}} {
			w := benchOf(t, simple).all("set wage 1.00;add kid;fork a;switch a;set wage 2.00;switch main;set filing joint;set filing single;undo" + strings.Repeat(";switch main", rigged.many-9))
			before := all(w)
			w.Do(rigged.rig)
			what := fmt.Sprint(line, " ", rigged)
			if r := w.tell(line); !sameReply(r, api.Reply{Err: api.ErrDeskSave}) {
				t.Errorf("%s: %s", what, brief(r))
			}
			if all(w) != before || !w.Up() {
				t.Errorf("%s: it shows another thing", what)
			}
			if r := w.tell("switch main"); r.Err != api.ErrDeskSave {
				t.Errorf("%s: not stuck: %s", what, brief(r))
			}
			w.all("reopen;switch main") // the machine stands: its files are as they are
			w = benchOf(t, simple)
		}
	}
}

// A fall while a command is laid down: the desk is down.
func TestP20_6Falls(t *testing.T) {
	for units := range 40 {
		w := benchOf(t, simple).all("set wage 1.00")
		w.Do(counted(api.CmdArm, units))
		r := w.tell("set wage 2.00")
		// The piece has 33 bytes: 34 units for the Append, one for the Sync.
		fell := units < 35
		if fell != (r.Err == api.ErrDeskDown) || !fell && r.Err != api.OK {
			t.Errorf("%d units: %s", units, brief(r))
		}
		if w.Up() == fell || fell && w.Branch() != "" {
			t.Errorf("%d units: up %t", units, w.Up())
		}
		if fell {
			w.errs("down", ask(0, 0), api.ErrDeskDown)
			w.all("reopen")
		}
		want := cent(200)
		if fell {
			want = cent(100)
		}
		w.is("wage", ask(0, 0), api.Reply{Val: want})
	}
}
