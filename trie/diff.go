package trie

import (
	"iter"

	"levy/api"
)

// Diff gives what differs from a to b, rising.
func Diff(a, b *Map) iter.Seq[api.Change] {
	return func(yield func(api.Change) bool) { differ(a.root, b.root, 0, 0, yield) }
}

// differ hands its yield on to each pair of children, and tells whether to go on behind them. What hangs on one node in both is passed over.
func differ(a, b *node, level int, prefix uint32, yield func(api.Change) bool) bool {
	switch {
	case a == b:
		return true
	case a == nil:
		return gained(b.from(level, prefix, 0), yield)
	case b == nil:
		return lost(a.from(level, prefix, 0), yield)
	case level == bottom:
		return differShelves(a.shelf, b.shelf, prefix, yield)
	}
	for at := range width {
		if !differ(a.kids[at], b.kids[at], level+1, head(prefix, level, at), yield) {
			return false
		}
	}
	return true
}

func gained(entries iter.Seq2[uint32, api.Value], yield func(api.Change) bool) bool {
	for id, v := range entries {
		if !yield(api.Change{Id: id, Has: true, Now: v}) {
			return false
		}
	}
	return true
}

func lost(entries iter.Seq2[uint32, api.Value], yield func(api.Change) bool) bool {
	for id, v := range entries {
		if !yield(api.Change{Id: id, Had: true, Was: v}) {
			return false
		}
	}
	return true
}

func differShelves(a, b *shelf, prefix uint32, yield func(api.Change) bool) bool {
	for at := range width {
		c := api.Change{Id: head(prefix, bottom, at)}
		c.Was, c.Had = a.look(at)
		c.Now, c.Has = b.look(at)
		if (c.Had != c.Has || c.Was != c.Now) && !yield(c) {
			return false
		}
	}
	return true
}

// Shared tells how many nodes of b are nodes of a, and how many aren't.
func Shared(a, b *Map) (same, fresh int) { return shared(a.root, b.root) }

// shared looks at the same place in both alone: a node never stands at another one, since its place is its keys' first bits.
func shared(a, b *node) (same, fresh int) {
	switch {
	case b == nil:
		return 0, 0
	case a == nil:
		return 0, b.nodes()
	case a == b:
		return b.nodes(), 0
	}
	fresh = 1
	for at, kid := range b.kids {
		s, f := shared(a.kids[at], kid)
		same, fresh = same+s, fresh+f
	}
	return same, fresh
}

// nodes tells how many nodes there are, this one and those below it.
func (n *node) nodes() int {
	if n == nil {
		return 0
	}
	count := 1
	for _, kid := range n.kids {
		count += kid.nodes()
	}
	return count
}
