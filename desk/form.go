package desk

import (
	"levy/api"
	"levy/audit"
	"levy/branch"
	"levy/eval"
	"levy/graph"
	"levy/incr"
	"levy/pack"
	"levy/trie"
)

// form is a pack made ready to be asked. Nothing that happens at a desk changes it.
type form struct {
	pack    api.Pack
	sum     uint32 // of its bytes: by it the journal knows its pack
	graph   *graph.Graph
	eval    *eval.Eval
	auditor *audit.Auditor
	fresh   *incr.Memo // of no inputs, never asked: the memo of a branch begins as its clone
}

// formOf makes a pack's bytes ready.
func formOf(data []byte) (*form, api.Errno) {
	p, _, errno := pack.Get(data)
	if errno != api.OK {
		return nil, errno
	}
	g, _, errno := graph.New(p) // it answers types.Check's error ahead of its own
	if errno != api.OK {
		return nil, errno
	}
	// What follows refuses no pack that graph took.
	v, _ := eval.New(p)
	a, _ := audit.New(p)
	m, _ := incr.New(p)
	return &form{p, pack.Sum(data), g, v, a, m}, api.OK
}

// cell tells the cell of a line at a row.
func (f *form) cell(line, row int) (uint32, bool) {
	cell, ok := f.graph.Cell(line, row)
	return uint32(cell), ok
}

// flag tells the cell of a row's used flag.
func (f *form) flag(group, row int) (uint32, bool) {
	cell, ok := f.graph.Flag(group, row)
	return uint32(cell), ok
}

// used tells whether a row that a group has is used, by inputs.
func (f *form) used(in *trie.Map, group, row int) bool {
	flag, _ := f.flag(group, row)
	_, ok := in.Get(flag)
	return ok
}

// standing tells whether the cell of a line at a row is one that inputs may be at: of no group, or of a row that is used.
func (f *form) standing(in *trie.Map, line, row int) bool {
	group := f.pack.Lines[line].Group
	return group < 0 || f.used(in, group, row)
}

// memosOf makes fresh memos of the present inputs of a book's branches.
func (f *form) memosOf(b *branch.Book) map[string]*incr.Memo {
	memos := map[string]*incr.Memo{}
	for _, name := range b.Names() {
		in, _ := b.Of(name)
		memos[name] = f.fresh.Clone()
		memos[name].Load(in.All())
	}
	return memos
}
