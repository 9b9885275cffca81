package desk

import (
	"strings"

	"levy/api"
	"levy/merge"
	"levy/sheet"
	"levy/trie"
	"levy/types"
)

// plan is what a command means to do: the step, and the reply if that is done; or a reply with the command's own error.
type plan struct {
	step  step
	reply api.Reply
}

// saved makes a command of a function that plans: what it does is laid down ahead of its reply.
func saved(planned func(d *Desk, c api.Cmd) plan) func(*Desk, api.Cmd) api.Reply {
	return func(d *Desk, c api.Cmd) api.Reply {
		p := planned(d, c)
		if p.reply.Err != api.OK {
			return p.reply
		}
		if errno := d.take(p.step); errno != api.OK {
			return refusal(errno)
		}
		return p.reply
	}
}

// take does a step: on a clone of the book first, and in memory only where the journal has it.
func (d *Desk) take(s step) api.Errno {
	next := d.book.Clone()
	if errno := s.on(next); errno != api.OK {
		return errno
	}
	if errno := d.lay(s.record(d.book.Inputs())); errno != api.OK {
		errno = unsaved(errno)
		if errno == api.ErrDeskDown {
			d.fall()
		}
		return errno
	}
	d.book = next
	d.remember(s)
	return api.OK
}

// lay lays a record into the journal, and folds it first where it has become long.
func (d *Desk) lay(r api.Record) api.Errno {
	if d.drawer.Len() >= api.FoldEvery {
		if errno := d.drawer.Fold(d.book.Put()); errno != api.OK {
			return errno
		}
	}
	return d.drawer.Put(r)
}

// remember does to the memos what a step did to the branches.
func (d *Desk) remember(s step) {
	switch s.kind {
	case recordFork:
		d.memos[strings.Clone(s.name)] = d.memo().Clone()
	case recordDelete:
		delete(d.memos, s.name)
	}
	d.memo().Load(d.book.Inputs().All())
}

// refused is the plan of a command that has an error of its own.
func refused(errno api.Errno) plan { return plan{reply: refusal(errno)} }

// change plans that the inputs become others.
func change(in *trie.Map) plan { return plan{step: step{kind: recordChange, in: in}} }

// settable tells the cell of a line at a row, if a person may fill it in.
func (d *Desk) settable(line, row int) (uint32, api.Errno) {
	cell, ok := d.form.cell(line, row)
	switch {
	case !ok:
		return 0, api.ErrDeskLine
	case !d.form.pack.Lines[line].Input:
		return 0, api.ErrDeskInput
	case !d.form.standing(d.book.Inputs(), line, row):
		return 0, api.ErrDeskRow
	}
	return cell, api.OK
}

func set(d *Desk, c api.Cmd) plan {
	cell, errno := d.settable(c.Line, c.Row)
	switch {
	case errno != api.OK:
		return refused(errno)
	case c.Val.Kind == api.Blank || !types.Fits(d.form.pack, c.Line, c.Val):
		return refused(api.ErrDeskValue)
	}
	return change(d.book.Inputs().Put(cell, c.Val))
}

func wipe(d *Desk, c api.Cmd) plan {
	cell, errno := d.settable(c.Line, c.Row)
	if errno != api.OK {
		return refused(errno)
	}
	return change(d.book.Inputs().Drop(cell))
}

func addRow(d *Desk, c api.Cmd) plan {
	if c.Line < 0 || c.Line >= len(d.form.pack.Groups) {
		return refused(api.ErrDeskLine)
	}
	in := d.book.Inputs()
	for row := range d.form.pack.Groups[c.Line].Rows {
		if !d.form.used(in, c.Line, row) {
			flag, _ := d.form.flag(c.Line, row)
			p := change(in.Put(flag, api.Value{Kind: api.Flag, Num: 1}))
			p.reply.Count = row
			return p
		}
	}
	return refused(api.ErrDeskRow)
}

func dropRow(d *Desk, c api.Cmd) plan {
	in := d.book.Inputs()
	flag, ok := d.form.flag(c.Line, c.Row)
	switch {
	case !ok:
		return refused(api.ErrDeskLine)
	case !d.form.used(in, c.Line, c.Row):
		return refused(api.ErrDeskRow)
	}
	in = in.Drop(flag)
	for i, line := range d.form.pack.Lines {
		if line.Input && line.Group == c.Line {
			cell, _ := d.form.cell(i, c.Row)
			in = in.Drop(cell)
		}
	}
	return change(in)
}

func undo(*Desk, api.Cmd) plan { return plan{step: step{kind: recordUndo}} }

func redo(*Desk, api.Cmd) plan { return plan{step: step{kind: recordRedo}} }

func forget(_ *Desk, c api.Cmd) plan { return plan{step: step{kind: recordForget, n: c.N}} }

func fork(_ *Desk, c api.Cmd) plan { return plan{step: step{kind: recordFork, name: c.Name}} }

func switchTo(_ *Desk, c api.Cmd) plan { return plan{step: step{kind: recordSwitch, name: c.Name}} }

func deleteBranch(_ *Desk, c api.Cmd) plan {
	return plan{step: step{kind: recordDelete, name: c.Name}}
}

func mergeFrom(d *Desk, c api.Cmd) plan {
	theirs, ok := d.book.Of(c.Name)
	switch {
	case !ok:
		return refused(api.ErrBranchNone)
	case c.Name == d.book.Current():
		return refused(api.ErrBranchHere)
	}
	base, _ := d.book.Base(c.Name)
	in, conflicts := merge.Merge(d.form.pack, base, d.book.Inputs(), theirs)
	if len(conflicts) > 0 {
		return plan{reply: api.Reply{Err: api.ErrDeskMerge, Conflicts: conflicts}}
	}
	return change(in)
}

func importPages(d *Desk, c api.Cmd) plan {
	in, _, _, errno := sheet.Read(d.form.pack, c.Pages)
	if errno != api.OK {
		return refused(errno)
	}
	return change(in)
}
