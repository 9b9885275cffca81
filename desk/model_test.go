package desk_test

import (
	"encoding/binary"
	"maps"
	"slices"
	"testing"

	"levy/advise"
	"levy/api"
	"levy/audit"
	"levy/branch"
	"levy/curve"
	"levy/drawer"
	"levy/eval"
	"levy/graph"
	"levy/incr"
	"levy/merge"
	"levy/pack"
	"levy/sheet"
	"levy/trace"
	"levy/trie"
	"levy/types"
)

// model: a desk as the chapter has it. Its branches are plain lists; what it shows it reckons from scratch; its memos, which are set cell by cell, tell Count alone.
type model struct {
	t       *testing.T
	pack    api.Pack
	sum     uint32
	graph   *graph.Graph
	eval    *eval.Eval
	auditor *audit.Auditor

	disk            *drawer.Disk
	drawer          *drawer.Drawer
	refuses, fallen bool
	book            *book // nil: it isn't up
	memos           map[string]*incr.Memo
}

// modelAt tells P20.1: nil, where there is no desk.
func modelAt(t *testing.T, data []byte, files []api.File) (*model, api.Errno) {
	t.Helper()
	disk, e := drawer.NewDisk(files)
	if e != api.OK {
		return nil, e
	}
	m := &model{t: t, disk: disk, sum: pack.Sum(data), refuses: true}
	if m.pack, _, e = pack.Get(data); e != api.OK {
		return m, e
	}
	if _, e = types.Check(m.pack); e != api.OK {
		return m, e
	}
	if m.graph, _, e = graph.New(m.pack); e != api.OK {
		return m, e
	}
	m.eval, _ = eval.New(m.pack)
	m.auditor, _ = audit.New(m.pack)
	m.refuses = false
	return m, m.open()
}

// open tells P20.1's third step, P20.2 and P20.4.
func (m *model) open() api.Errno {
	m.book, m.drawer, m.memos = nil, nil, nil
	w, summary, records, e := drawer.Open(m.disk, m.sum)
	if m.fallen = e == api.ErrDiskDown; e != api.OK {
		m.refuses = e == api.ErrDrawerOther
		return e
	}
	b := m.replayed(summary, records)
	if b == nil {
		m.refuses = true
		return api.ErrDrawerOther
	}
	m.book, m.drawer, m.memos = b, w, map[string]*incr.Memo{}
	for _, name := range b.names() {
		m.memos[name] = m.freshMemo()
		m.load(name)
	}
	return api.OK
}

func (m *model) freshMemo() *incr.Memo {
	memo, e := incr.New(m.pack)
	if e != api.OK {
		m.t.Fatalf("incr.New: error %d", int(e))
	}
	return memo
}

// load sets a branch's memo, cell by cell.
func (m *model) load(name string) {
	in := m.book.of(name)
	for cell := range m.graph.Cells() {
		if m.isInput(cell) {
			if _, e := m.memos[name].Set(uint32(cell), in[uint32(cell)]); e != api.OK {
				m.t.Fatalf("Set: error %d", int(e))
			}
		}
	}
}

func (m *model) isInput(cell int) bool {
	place, _ := m.graph.Place(cell)
	return place.Kind == api.PlaceFlag || place.Kind == api.PlaceLine && m.pack.Lines[place.Index].Input
}

// replayed tells P20.4: nil, if it can't be.
func (m *model) replayed(summary []byte, records []api.Record) *book {
	b := newBook()
	if len(summary) > 0 {
		if _, e := branch.Get(summary); e != api.OK {
			return nil
		}
		b = bookIn(summary)
	}
	for _, s := range b.branches {
		for _, in := range append(slices.Clone(s.versions), s.base) {
			if !m.fits(in) {
				return nil
			}
		}
	}
	for _, r := range records {
		var in cells
		n := 0
		ok := r.Kind >= 1 && r.Kind <= 7
		switch r.Kind {
		case 1:
			in, ok = m.changedBy(b.inputs(), r.Body)
		case 2, 3:
			ok = len(r.Body) == 0
		case 4:
			if ok = len(r.Body) == 2; ok {
				n = int(r.Body[0]) + 256*int(r.Body[1])
			}
		}
		if !ok || b.do(r.Kind, in, n, string(r.Body)) != 0 {
			return nil
		}
	}
	return b
}

func (m *model) fits(in cells) bool { return m.eval.Fits(in.trie()) == api.OK }

func (m *model) changedBy(in cells, body []byte) (cells, bool) {
	if len(body) < 2 || len(body) != 2+13*int(binary.LittleEndian.Uint16(body)) {
		return nil, false
	}
	last := -1
	for at := 2; at < len(body); at += 13 {
		cell := binary.LittleEndian.Uint32(body[at:])
		v := val(int(body[at+4]), int64(binary.LittleEndian.Uint64(body[at+5:])))
		if int(cell) <= last || int(cell) >= m.graph.Cells() || v.Kind == 0 && v.Num != 0 {
			return nil, false
		}
		if last = int(cell); v == blank {
			in = in.without(cell)
		} else {
			in = in.with(cell, v)
		}
	}
	return in, m.fits(in)
}

// do tells P20.5.
func (m *model) do(c api.Cmd) api.Reply {
	switch {
	case m.refuses:
		return api.Reply{Err: 200}
	case c.Kind < 1 || c.Kind > 25:
		return api.Reply{Err: 201}
	case c.Kind == api.CmdReopen:
		return api.Reply{Err: m.reopen(c.List)}
	case m.book == nil:
		return api.Reply{Err: 207}
	}
	switch c.Kind {
	case api.CmdQuery, api.CmdAll, api.CmdDiff, api.CmdExplain, api.CmdAudit, api.CmdAdvise, api.CmdCurve, api.CmdSheet, api.CmdNames:
		return m.answer(c)
	case api.CmdCrash, api.CmdArm, api.CmdFail:
		return api.Reply{Err: m.rig(c)}
	}
	return m.change(c)
}

// reopen and rig tell P20.12.
func (m *model) reopen(keep []int) api.Errno {
	if m.fallen {
		m.disk.Restart(keep)
	}
	switch e := m.open(); e {
	case api.ErrDiskDown:
		return 207
	case api.ErrDiskIO, api.ErrDiskFull:
		return 208
	default:
		return e
	}
}

func (m *model) rig(c api.Cmd) api.Errno {
	switch {
	case c.Kind == api.CmdCrash:
		m.disk.Crash()
		m.book, m.drawer, m.memos, m.fallen = nil, nil, nil, true
	case c.N < 0 || c.Kind == api.CmdFail && c.Row < 0:
		return 201
	case c.Kind == api.CmdArm:
		m.disk.Arm(c.N)
	default:
		m.disk.Fail(c.Row, c.N)
	}
	return 0
}

// cell: the cell of a line and row, -1 where there is none.
func (m *model) cell(line, row int) int {
	if cell, ok := m.graph.Cell(line, row); ok {
		return cell
	}
	return -1
}

// rowUsed tells whether a line's row is used, or it has none.
func (m *model) rowUsed(line, row int) bool {
	flag, inRow := m.graph.Flag(m.pack.Lines[line].Group, row)
	return !inRow || m.book.inputs()[uint32(flag)] == yes
}

// change tells P20.6.
func (m *model) change(c api.Cmd) api.Reply {
	kind, in, r := m.planned(c)
	if r.Err != 0 {
		return r
	}
	next := m.book.clone()
	if e := next.do(kind, in, c.N, c.Name); e != 0 {
		return api.Reply{Err: e}
	}
	e := api.OK
	if m.drawer.Len() >= 16 {
		e = m.drawer.Fold(m.book.bytes())
	}
	if e == api.OK {
		e = m.drawer.Put(record(kind, in, m.book.inputs(), c.N, c.Name))
	}
	switch {
	case e == api.ErrDiskDown:
		m.book, m.drawer, m.memos, m.fallen = nil, nil, nil, true
		return api.Reply{Err: 207}
	case e != api.OK:
		return api.Reply{Err: 208}
	}
	m.book = next
	switch kind {
	case 5:
		m.memos[c.Name] = m.memos[next.current].Clone()
	case 7:
		delete(m.memos, c.Name)
	}
	m.load(next.current)
	return r
}

// planned tells the table of P20.6: a record's kind, the inputs behind a change, and the reply, whose error is the command's own.
func (m *model) planned(c api.Cmd) (kind byte, in cells, r api.Reply) {
	in = m.book.inputs()
	switch c.Kind {
	case api.CmdUndo:
		return 2, nil, r
	case api.CmdRedo:
		return 3, nil, r
	case api.CmdForget:
		return 4, nil, r
	case api.CmdFork:
		return 5, nil, r
	case api.CmdSwitch:
		return 6, nil, r
	case api.CmdDelete:
		return 7, nil, r
	case api.CmdSet, api.CmdClear:
		in, r.Err = m.filledIn(c)
	case api.CmdAdd, api.CmdDrop:
		in, r = m.rowed(c)
	case api.CmdMerge:
		in, r = m.merged(c)
	case api.CmdImport:
		got, _, _, e := sheet.Read(m.pack, c.Pages)
		if r.Err = e; e == api.OK {
			in = cellsOf(got)
		}
	}
	return 1, in, r
}

func (m *model) filledIn(c api.Cmd) (cells, api.Errno) {
	cell := m.cell(c.Line, c.Row)
	switch {
	case cell < 0:
		return nil, 202
	case !m.pack.Lines[c.Line].Input:
		return nil, 203
	case !m.rowUsed(c.Line, c.Row):
		return nil, 205
	case c.Kind == api.CmdClear:
		return m.book.inputs().without(uint32(cell)), 0
	case c.Val.Kind == api.Blank || !types.Fits(m.pack, c.Line, c.Val):
		return nil, 204
	}
	return m.book.inputs().with(uint32(cell), c.Val), 0
}

func (m *model) rowed(c api.Cmd) (cells, api.Reply) {
	in := m.book.inputs()
	if c.Line < 0 || c.Line >= len(m.pack.Groups) {
		return nil, api.Reply{Err: 202}
	}
	if c.Kind == api.CmdAdd {
		for row := range m.pack.Groups[c.Line].Rows {
			if flag, _ := m.graph.Flag(c.Line, row); in[uint32(flag)] != yes {
				return in.with(uint32(flag), yes), api.Reply{Count: row}
			}
		}
		return nil, api.Reply{Err: 205}
	}
	if c.Row < 0 || c.Row >= m.pack.Groups[c.Line].Rows {
		return nil, api.Reply{Err: 202}
	}
	flag, _ := m.graph.Flag(c.Line, c.Row)
	if in[uint32(flag)] != yes {
		return nil, api.Reply{Err: 205}
	}
	in = maps.Clone(in)
	for cell := range m.graph.Cells() {
		place, _ := m.graph.Place(cell)
		inGroup := place.Kind == api.PlaceFlag && place.Index == c.Line || place.Kind == api.PlaceLine && m.pack.Lines[place.Index].Group == c.Line
		if inGroup && place.Row == c.Row {
			delete(in, uint32(cell))
		}
	}
	return in, api.Reply{}
}

func (m *model) merged(c api.Cmd) (cells, api.Reply) {
	theirs, ok := m.book.branches[c.Name]
	switch {
	case !ok:
		return nil, api.Reply{Err: 122}
	case c.Name == m.book.current:
		return nil, api.Reply{Err: 125}
	}
	got, conflicts := merge.Merge(m.pack, theirs.base.trie(), m.book.inputs().trie(), m.book.of(c.Name).trie())
	if len(conflicts) > 0 {
		return nil, api.Reply{Err: 206, Conflicts: conflicts}
	}
	return cellsOf(got), api.Reply{}
}

// answer tells P20.7 to P20.11.
func (m *model) answer(c api.Cmd) api.Reply {
	in := m.book.inputs().trie()
	vals, memo := m.eval.All(in), m.memos[m.book.current]
	cell := m.cell(c.Line, c.Row)
	if cell < 0 && slices.Contains([]int{api.CmdQuery, api.CmdExplain, api.CmdAdvise, api.CmdCurve}, c.Kind) {
		return api.Reply{Err: 202}
	}
	switch c.Kind {
	case api.CmdQuery:
		_, n, _ := memo.Get(uint32(cell))
		return api.Reply{Val: vals[cell], Count: n}
	case api.CmdAll:
		return api.Reply{Vals: vals, Count: m.askAll(memo)}
	case api.CmdDiff:
		other, ok := m.book.branches[c.Name]
		if !ok {
			return api.Reply{Err: 122}
		}
		return api.Reply{Changes: slices.Collect(merge.Changes(m.pack, in, other.versions[other.now].trie()))}
	case api.CmdExplain:
		fresh := m.freshMemo()
		fresh.Load(in.All())
		told, e := trace.Explain(fresh, uint32(cell))
		memo.Get(uint32(cell))
		return api.Reply{Err: e, Trace: told}
	case api.CmdAudit:
		m.auditor.Run(func(cell uint32) api.Value { v, _, _ := memo.Get(cell); return v })
		return api.Reply{Findings: m.auditor.Run(func(cell uint32) api.Value { return vals[cell] })}
	case api.CmdAdvise:
		return m.advised(c, in, uint32(cell))
	case api.CmdCurve:
		return m.curved(c, in, uint32(cell))
	case api.CmdSheet:
		m.askAll(memo)
		pages, e := sheet.Print(m.pack, in, vals)
		return api.Reply{Err: e, Pages: pages}
	}
	return api.Reply{Names: m.book.names()}
}

func (m *model) askAll(memo *incr.Memo) int {
	n := 0
	for cell := range m.graph.Cells() {
		_, made, _ := memo.Get(uint32(cell))
		n += made
	}
	return n
}

func (m *model) advised(c api.Cmd, in *trie.Map, target uint32) api.Reply {
	var l []uint32
	for _, line := range c.List {
		cell := m.cell(line, 0)
		if cell < 0 || m.pack.Lines[line].Group != -1 {
			return api.Reply{Err: 202}
		}
		l = append(l, uint32(cell))
	}
	a, e := advise.Best(m.pack, in, l, target, c.N != 0)
	return api.Reply{Err: e, Advice: a}
}

func (m *model) curved(c api.Cmd, in *trie.Map, cell uint32) api.Reply {
	if len(c.List) != 3 || m.cell(c.List[0], c.List[1]) < 0 {
		return api.Reply{Err: 202}
	}
	from, to := m.pack.Lines[c.Line], m.pack.Lines[c.List[0]]
	switch {
	case !from.Input || from.Type != api.Cents || to.Type != api.Cents:
		return api.Reply{Err: 203}
	case !m.rowUsed(c.Line, c.Row):
		return api.Reply{Err: 205}
	case !slices.Contains([]string{"raw", "rate", "slope"}, c.Name):
		return api.Reply{Err: 201}
	}
	l, e := curve.Sample(func(x int64) api.Value {
		return m.eval.All(in.Put(cell, cent(x)))[m.cell(c.List[0], c.List[1])]
	}, c.Val.Num, int64(c.N), c.List[2])
	if e == api.OK && c.Name == "rate" {
		l = curve.Rate(l)
	}
	if e == api.OK && c.Name == "slope" {
		l, e = curve.Slope(l)
	}
	return api.Reply{Err: e, Points: l}
}
