package desk

import (
	"slices"

	"levy/advise"
	"levy/api"
	"levy/curve"
	"levy/incr"
	"levy/merge"
	"levy/money"
	"levy/sheet"
	"levy/trace"
)

// curveNumbers: how many numbers say a curve: the target's line and row, how many points.
const curveNumbers = 3

// memo tells the current branch's.
func (d *Desk) memo() *incr.Memo { return d.memos[d.book.Current()] }

// values asks for all cells, one behind the other: what they hold, and how many evaluations that took.
func (d *Desk) values() ([]api.Value, int) {
	var vals []api.Value
	memo, count := d.memo(), 0
	for cell := range d.form.graph.Cells() {
		v, made, _ := memo.Get(uint32(cell))
		vals = append(vals, v)
		count += made
	}
	return vals, count
}

func query(d *Desk, c api.Cmd) api.Reply {
	cell, ok := d.form.cell(c.Line, c.Row)
	if !ok {
		return refusal(api.ErrDeskLine)
	}
	v, made, _ := d.memo().Get(cell)
	return api.Reply{Val: v, Count: made}
}

func queryAll(d *Desk, _ api.Cmd) api.Reply {
	vals, count := d.values()
	return api.Reply{Vals: vals, Count: count}
}

func diff(d *Desk, c api.Cmd) api.Reply {
	other, ok := d.book.Of(c.Name)
	if !ok {
		return refusal(api.ErrBranchNone)
	}
	return api.Reply{Changes: slices.Collect(merge.Changes(d.form.pack, d.book.Inputs(), other))}
}

func names(d *Desk, _ api.Cmd) api.Reply { return api.Reply{Names: d.book.Names()} }

func explain(d *Desk, c api.Cmd) api.Reply {
	cell, ok := d.form.cell(c.Line, c.Row)
	if !ok {
		return refusal(api.ErrDeskLine)
	}
	t, errno := trace.Explain(d.memo(), cell)
	return api.Reply{Err: errno, Trace: t}
}

func auditAll(d *Desk, _ api.Cmd) api.Reply {
	memo := d.memo()
	return api.Reply{Findings: d.form.auditor.Run(func(cell uint32) api.Value {
		v, _, _ := memo.Get(cell)
		return v
	})}
}

func adviseBest(d *Desk, c api.Cmd) api.Reply {
	target, ok := d.form.cell(c.Line, c.Row)
	if !ok {
		return refusal(api.ErrDeskLine)
	}
	var cells []uint32
	for _, line := range c.List {
		cell, ok := d.form.cell(line, 0)
		if !ok || d.form.pack.Lines[line].Group >= 0 {
			return refusal(api.ErrDeskLine)
		}
		cells = append(cells, cell)
	}
	advice, errno := advise.Best(d.form.pack, d.book.Inputs(), cells, target, c.N != 0)
	return api.Reply{Err: errno, Advice: advice}
}

func curveAlong(d *Desk, c api.Cmd) api.Reply {
	errno := d.curveRefusal(c)
	if errno != api.OK {
		return refusal(errno)
	}
	points, errno := curve.Sample(d.along(c), c.Val.Num, int64(c.N), c.List[2])
	if errno == api.OK {
		points, errno = shaped(c.Name, points)
	}
	return api.Reply{Err: errno, Points: points}
}

// curveRefusal tells why a curve can't be asked for, its numbers apart.
func (d *Desk) curveRefusal(c api.Cmd) api.Errno {
	if _, ok := d.form.cell(c.Line, c.Row); !ok || len(c.List) != curveNumbers {
		return api.ErrDeskLine
	}
	if _, ok := d.form.cell(c.List[0], c.List[1]); !ok {
		return api.ErrDeskLine
	}
	input, target := d.form.pack.Lines[c.Line], d.form.pack.Lines[c.List[0]]
	switch {
	case !input.Input || input.Type != api.Cents || target.Type != api.Cents:
		return api.ErrDeskInput
	case !d.form.standing(d.book.Inputs(), c.Line, c.Row):
		return api.ErrDeskRow
	case c.Name != "raw" && c.Name != "rate" && c.Name != "slope":
		return api.ErrDeskCmd
	}
	return api.OK
}

// along tells what a curve's target is worth, from scratch, with other cents in its input.
func (d *Desk) along(c api.Cmd) func(x int64) api.Value {
	in := d.book.Inputs()
	cell, _ := d.form.cell(c.Line, c.Row)
	target, _ := d.form.cell(c.List[0], c.List[1])
	return func(x int64) api.Value {
		v := api.Value{Kind: api.Cents, Num: x}
		if !money.Valid(v) {
			return api.Value{Kind: api.Fault, Num: api.Over}
		}
		worth, _ := d.form.eval.One(in.Put(cell, v), target)
		return worth
	}
}

// shaped makes of a curve's points what its name asks for.
func shaped(name string, points []api.Point) ([]api.Point, api.Errno) {
	switch name {
	case "rate":
		return curve.Rate(points), api.OK
	case "slope":
		return curve.Slope(points)
	}
	return points, api.OK
}

func printSheet(d *Desk, _ api.Cmd) api.Reply {
	vals, _ := d.values()
	pages, errno := sheet.Print(d.form.pack, d.book.Inputs(), vals)
	return api.Reply{Err: errno, Pages: pages}
}
