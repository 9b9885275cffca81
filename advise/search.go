package advise

import (
	"iter"

	"levy/api"
	"levy/eval"
	"levy/graph"
	"levy/incr"
	"levy/trie"
)

// search: all that the ways hang on. It keeps nothing of what was handed in, and is never changed.
type search struct {
	memo    *incr.Memo // of the inputs that were handed in
	choices []choice
	target  uint32
}

// newSearch tells the search of what was handed in, or why there is none.
func newSearch(p api.Pack, in *trie.Map, cells []uint32, target uint32) (*search, api.Errno) {
	if in == nil {
		in = trie.Empty()
	}
	if errno := refusal(p, in); errno != api.OK {
		return nil, errno
	}
	g, _, _ := graph.New(p) // eval has asked it already
	q := question{p, g, in}
	choices, ok := q.choices(cells)
	switch {
	case !ok:
		return nil, api.ErrAdviseCells
	case tooMany(choices):
		return nil, api.ErrAdviseMany
	case !q.aims(target):
		return nil, api.ErrAdviseTarget
	}
	m, _ := incr.New(p)
	m.Load(in.All())
	return &search{m, choices, target}, api.OK
}

// refusal tells what is wrong with a pack, or with inputs over it.
func refusal(p api.Pack, in *trie.Map) api.Errno {
	v, errno := eval.New(p)
	if errno != api.OK {
		return errno
	}
	return v.Fits(in)
}

// ways gives all lists of picks in counting order, each with its worth.
func (s *search) ways() iter.Seq2[[]api.Value, api.Value] {
	return func(yield func([]api.Value, api.Value) bool) {
		worth := s.reckoner()
		for picks := range counted(s.choices) {
			if !yield(picks, worth(picks)) {
				return
			}
		}
	}
}

// reckoner makes a function that tells what the target holds with some picks put at the cells. One memo takes all of them, so that a way costs what it changes from the way ahead of it; it is a clone, so that no two walks meet in it.
func (s *search) reckoner() func(picks []api.Value) api.Value {
	m := s.memo.Clone()
	return func(picks []api.Value) api.Value {
		for i, v := range picks {
			m.Set(s.choices[i].cell, v)
		}
		worth, _, _ := m.Get(s.target)
		return worth
	}
}
