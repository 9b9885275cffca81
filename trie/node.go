package trie

import (
	"iter"

	"levy/api"
)

// Each level takes four bits of a key, so a node has sixteen children.
const (
	width  = 16
	bits   = 4
	bottom = 7
)

// node: what the keys with the same first bits hang on. Versions share it, so it isn't changed once a map has it.
type node struct {
	kids  [width]*node // above the bottom
	shelf *shelf       // at the bottom; apart from the node, so that those above it stay small
}

// shelf: the values of a node at the bottom. Any value may be stored, the zero one too, so that a place tells apart whether one is there.
type shelf struct {
	there [width]bool
	vals  [width]api.Value
}

// digit tells which child of a node of that level a key hangs on.
func digit(id uint32, level int) int { return int(id >> shift(level) % width) }

// head tells the first bits of the keys below a child; parent has those below its parent, a node of that level.
func head(parent uint32, level, at int) uint32 { return parent | uint32(at)<<shift(level) }

func shift(level int) int { return bits * (bottom - level) }

func (s *shelf) look(at int) (api.Value, bool) { return s.vals[at], s.there[at] }

// with tells the node, new as all on the way to the key, with a value there. A nil one has no keys yet.
func (n *node) with(level int, id uint32, v api.Value) *node {
	made := n.twin(level)
	at := digit(id, level)
	if level == bottom {
		made.shelf.there[at], made.shelf.vals[at] = true, v
	} else {
		made.kids[at] = made.kids[at].with(level+1, id, v)
	}
	return made
}

// without tells the node, new as all on the way to the key, less the key, which is there; nil if no key is left: a node without keys isn't one.
func (n *node) without(level int, id uint32) *node {
	made := n.twin(level)
	at := digit(id, level)
	if level == bottom {
		made.shelf.there[at], made.shelf.vals[at] = false, api.Value{}
	} else {
		made.kids[at] = made.kids[at].without(level+1, id)
	}
	if made.bare() {
		return nil
	}
	return made
}

// twin tells a new node with the same children, that may still be changed.
func (n *node) twin(level int) *node {
	made := &node{}
	if n != nil {
		*made = *n
	}
	if level == bottom {
		made.shelf = made.shelf.twin()
	}
	return made
}

func (s *shelf) twin() *shelf {
	made := &shelf{}
	if s != nil {
		*made = *s
	}
	return made
}

func (n *node) bare() bool {
	if n.shelf != nil {
		return n.shelf.there == [width]bool{}
	}
	return n.kids == [width]*node{}
}

// from gives the keys below a node (nil: none) from low on, rising. prefix: the first bits of its keys, those that its level says.
func (n *node) from(level int, prefix, low uint32) iter.Seq2[uint32, api.Value] {
	return func(yield func(uint32, api.Value) bool) { n.search(level, prefix, low, yield) }
}

// search hands its yield on to each child, and tells whether to go on behind it.
func (n *node) search(level int, prefix, low uint32, yield func(uint32, api.Value) bool) bool {
	if n == nil {
		return true
	}
	if level == bottom {
		return n.shelf.search(prefix, digit(low, bottom), yield)
	}
	first := digit(low, level)
	for at := first; at < width; at++ {
		if at > first {
			low = 0 // all keys behind the first child are above low
		}
		if !n.kids[at].search(level+1, head(prefix, level, at), low, yield) {
			return false
		}
	}
	return true
}

func (s *shelf) search(prefix uint32, first int, yield func(uint32, api.Value) bool) bool {
	for at := first; at < width; at++ {
		if s.there[at] && !yield(head(prefix, bottom, at), s.vals[at]) {
			return false
		}
	}
	return true
}
