package desk

import "levy/api"

// word is the first word of a script's lines: the command that it says, and how the rest of the line is read.
type word struct {
	text string
	kind int
	rest func(r *reader, c *api.Cmd)
}

// vocabulary makes the table of all first words.
func vocabulary() []word {
	return []word{
		{"set", api.CmdSet, setRest},
		{"clear", api.CmdClear, placeRest},
		{"add", api.CmdAdd, groupRest},
		{"drop", api.CmdDrop, rowRest},
		{"undo", api.CmdUndo, noRest},
		{"redo", api.CmdRedo, noRest},
		{"forget", api.CmdForget, countRest},
		{"fork", api.CmdFork, nameRest},
		{"switch", api.CmdSwitch, nameRest},
		{"delete", api.CmdDelete, nameRest},
		{"merge", api.CmdMerge, nameRest},
		{"diff", api.CmdDiff, nameRest},
		{"query", api.CmdQuery, placeRest},
		{"explain", api.CmdExplain, placeRest},
		{"all", api.CmdAll, noRest},
		{"audit", api.CmdAudit, noRest},
		{"sheet", api.CmdSheet, noRest},
		{"branches", api.CmdNames, noRest},
		{"least", api.CmdAdvise, adviseRest(0)},
		{"most", api.CmdAdvise, adviseRest(1)},
		{"raw", api.CmdCurve, curveRest("raw")},
		{"rate", api.CmdCurve, curveRest("rate")},
		{"slope", api.CmdCurve, curveRest("slope")},
		{"crash", api.CmdCrash, noRest},
		{"arm", api.CmdArm, countRest},
		{"fail", api.CmdFail, failRest},
		{"reopen", api.CmdReopen, reopenRest},
	}
}

// command reads a whole line.
func (r *reader) command() api.Cmd {
	first := r.take(api.TokenName)
	for _, w := range vocabulary() {
		if w.text == first.Text {
			c := api.Cmd{Kind: w.kind}
			w.rest(r, &c)
			r.finish()
			return c
		}
	}
	r.refuse(first.At, api.ErrRulesToken)
	return api.Cmd{}
}

// finish refuses what is left.
func (r *reader) finish() {
	if len(r.left) > 0 {
		r.refuse(r.left[0].At, api.ErrRulesToken)
	}
}

func noRest(*reader, *api.Cmd) {}

func setRest(r *reader, c *api.Cmd) {
	c.Line, c.Row = r.place()
	if r.fault == nil {
		c.Val = r.value(r.pack.Lines[c.Line])
	}
}

func placeRest(r *reader, c *api.Cmd) { c.Line, c.Row = r.place() }

func groupRest(r *reader, c *api.Cmd) { c.Line = r.group() }

func rowRest(r *reader, c *api.Cmd) { c.Line, c.Row = r.group(), r.count() }

func countRest(r *reader, c *api.Cmd) { c.N = r.count() }

func nameRest(r *reader, c *api.Cmd) { c.Name = r.name() }

func adviseRest(most int) func(*reader, *api.Cmd) {
	return func(r *reader, c *api.Cmd) {
		c.N = most
		c.Line, c.Row = r.place()
		r.word("by")
		c.List = append(c.List, r.line())
		for len(c.List) < api.MaxArgs && r.takes(api.TokenSign, ",") {
			c.List = append(c.List, r.line())
		}
	}
}

func curveRest(name string) func(*reader, *api.Cmd) {
	return func(r *reader, c *api.Cmd) {
		c.Name = name
		line, row := r.place()
		r.word("by")
		c.Line, c.Row = r.place()
		r.word("from")
		c.Val = api.Value{Kind: api.Cents, Num: r.signed(api.TokenAmount)}
		r.word("step")
		c.N = int(r.take(api.TokenAmount).Num)
		r.word("points")
		c.List = []int{line, row, r.count()}
	}
}

func failRest(r *reader, c *api.Cmd) {
	c.N = r.count()
	if r.takes(api.TokenName, "after") {
		c.Row = r.count()
	}
}

func reopenRest(r *reader, c *api.Cmd) {
	for len(r.left) > 0 && len(c.List) < api.MaxArgs {
		c.List = append(c.List, r.count())
	}
}
