package eval

import (
	"levy/api"
	"levy/graph"
)

// term: what an expression is made ready to. It knows the cells that it may read by their numbers, so that what it is worth hangs on what it reads alone.
type term interface {
	worth(read reader) api.Value
}

type constant struct {
	value api.Value
}

func (c constant) worth(reader) api.Value { return c.value }

type reference struct {
	cell uint32
}

func (r reference) worth(read reader) api.Value { return read(r.cell) }

// operation: an operator over other terms, or over the rows of a group.
type operation struct {
	reckon   reckoner
	op       int
	num, den int64
	mode     int
	bands    []api.Band // of the bracket table that it names
	column   int        // the type of the line that it goes through
	args     []term
	rows     []rowCells
}

// rowCells: a row of a group that an operation goes through: its flag, and the column's cell.
type rowCells struct {
	flag, cell uint32
}

func (o *operation) worth(read reader) api.Value { return o.reckon(o, read) }

// maker makes expressions ready, as they stand at a row.
type maker struct {
	pack      api.Pack
	graph     *graph.Graph
	operators []operator
	row       int
}

func (v *Eval) at(row int) maker { return maker{v.pack, v.graph, operators(), row} }

// ready makes an expression ready that types.Type takes: so all that it names is there.
func (m maker) ready(e api.Expr) term {
	kind := m.operators[e.Op].kind
	switch {
	case kind != api.Blank:
		return constant{api.Value{Kind: kind, Num: e.Num}}
	case e.Op == api.OpLine:
		return reference{m.cell(e.Num)}
	}
	return m.over(e)
}

// cell tells the cell of a line as it is read at the row; a line of no group has one alone.
func (m maker) cell(line int64) uint32 {
	row := m.row
	if m.pack.Lines[line].Group == -1 {
		row = 0
	}
	cell, _ := m.graph.Cell(int(line), row)
	return uint32(cell)
}

// over makes an operator ready, over its arguments or over the rows that it names.
func (m maker) over(e api.Expr) *operation {
	o := &operation{reckon: m.operators[e.Op].reckon, op: e.Op, num: e.Num, den: e.Den, mode: e.Mode}
	switch e.Op {
	case api.OpSum, api.OpLeast, api.OpGreatest, api.OpAny, api.OpAll:
		line := m.pack.Lines[e.Num]
		o.column, o.rows = line.Type, m.rowsOf(line.Group, int(e.Num))
	case api.OpUsed:
		o.rows = m.rowsOf(int(e.Num), -1)
	case api.OpBracket:
		o.bands = m.pack.Tables[e.Num].Bands
	}
	for _, a := range e.Args {
		o.args = append(o.args, m.ready(a))
	}
	return o
}

// rowsOf tells all rows of a group, rising, with the cells of a line (-1: of none).
func (m maker) rowsOf(group, line int) []rowCells {
	var l []rowCells
	for n := range m.pack.Groups[group].Rows {
		used, _ := m.graph.Flag(group, n)
		cell, _ := m.graph.Cell(line, n)
		l = append(l, rowCells{uint32(used), uint32(cell)})
	}
	return l
}
