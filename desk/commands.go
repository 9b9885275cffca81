package desk

import "levy/api"

// command is a kind of commands.
type command struct {
	kind  int
	wakes bool // it is done while the desk is down, too
	do    func(d *Desk, c api.Cmd) api.Reply
	tell  func(p *play, c api.Cmd, r api.Reply) // what a play says of a reply without an error
}

// commands makes the table of all kinds.
func commands() []command {
	return []command{
		{kind: api.CmdSet, do: saved(set), tell: tellOK},
		{kind: api.CmdClear, do: saved(wipe), tell: tellOK},
		{kind: api.CmdAdd, do: saved(addRow), tell: tellRow},
		{kind: api.CmdDrop, do: saved(dropRow), tell: tellOK},
		{kind: api.CmdUndo, do: saved(undo), tell: tellOK},
		{kind: api.CmdRedo, do: saved(redo), tell: tellOK},
		{kind: api.CmdForget, do: saved(forget), tell: tellOK},
		{kind: api.CmdFork, do: saved(fork), tell: tellOK},
		{kind: api.CmdSwitch, do: saved(switchTo), tell: tellOK},
		{kind: api.CmdDelete, do: saved(deleteBranch), tell: tellOK},
		{kind: api.CmdMerge, do: saved(mergeFrom), tell: tellOK},
		{kind: api.CmdQuery, do: query, tell: tellValue},
		{kind: api.CmdAll, do: queryAll, tell: tellCells},
		{kind: api.CmdDiff, do: diff, tell: tellChanges},
		{kind: api.CmdExplain, do: explain, tell: tellTrace},
		{kind: api.CmdAudit, do: auditAll, tell: tellFindings},
		{kind: api.CmdAdvise, do: adviseBest, tell: tellAdvice},
		{kind: api.CmdCurve, do: curveAlong, tell: tellPoints},
		{kind: api.CmdSheet, do: printSheet, tell: tellPages},
		{kind: api.CmdImport, do: saved(importPages), tell: tellOK},
		{kind: api.CmdNames, do: names, tell: tellNames},
		{kind: api.CmdCrash, do: crash, tell: tellOK},
		{kind: api.CmdArm, do: arm, tell: tellOK},
		{kind: api.CmdFail, do: fail, tell: tellOK},
		{kind: api.CmdReopen, wakes: true, do: reopen, tell: tellOK},
	}
}

// commandOf finds a kind of commands.
func commandOf(kind int) (command, bool) {
	for _, c := range commands() {
		if c.kind == kind {
			return c, true
		}
	}
	return command{}, false
}
