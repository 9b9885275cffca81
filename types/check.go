package types

import (
	"slices"

	"levy/api"
)

// The parts of a pack, as a spot tells them.
const (
	partPack = iota + 1
	partOptions
	partTables
	partGroups
	partLines
	partChecks
)

// checker: a pack that is being looked at, part by part.
type checker struct {
	pack      api.Pack
	operators []operator
	seen      []string // the names that were looked at: all parts share them
}

// itemAt is the place of an item of a part where no clause is meant.
func itemAt(part, at int) api.Spot { return api.Spot{Part: part, At: at, Clause: -1} }

// firstOf looks at the items of a part one by one.
func firstOf[T any](part int, l []T, fault func(T) api.Errno) (api.Spot, api.Errno) {
	for i, x := range l {
		if errno := fault(x); errno != api.OK {
			return itemAt(part, i), errno
		}
	}
	return api.Spot{}, api.OK
}

func (c *checker) sizes() (api.Spot, api.Errno) {
	p := c.pack
	for _, s := range []struct{ part, has, least, most int }{
		{partOptions, len(p.Options), 0, api.MaxTables},
		{partTables, len(p.Tables), 0, api.MaxTables},
		{partGroups, len(p.Groups), 0, api.MaxGroups},
		{partLines, len(p.Lines), 1, api.MaxLines},
		{partChecks, len(p.Checks), 0, api.MaxChecks},
	} {
		if s.has < s.least || s.has > s.most {
			return itemAt(s.part, 0), api.ErrTypeSize
		}
	}
	return api.Spot{}, api.OK
}

func (c *checker) head() (api.Spot, api.Errno) {
	if !isName(c.pack.Name) {
		return itemAt(partPack, 0), api.ErrTypeName
	}
	if c.pack.Year < 1900 || c.pack.Year > 2199 {
		return itemAt(partPack, 0), api.ErrTypeSize
	}
	return api.Spot{}, api.OK
}

// name looks at a name of the space that all parts share.
func (c *checker) name(s string) api.Errno {
	errno := newName(s, c.seen)
	c.seen = append(c.seen, s)
	return errno
}

// newName tells whether a name is one, and none of those ahead of it.
func newName(s string, ahead []string) api.Errno {
	if !isName(s) {
		return api.ErrTypeName
	}
	if slices.Contains(ahead, s) {
		return api.ErrTypeTwice
	}
	return api.OK
}

func (c *checker) options() (api.Spot, api.Errno) {
	return firstOf(partOptions, c.pack.Options, func(o api.Options) api.Errno {
		if errno := c.name(o.Name); errno != api.OK {
			return errno
		}
		if len(o.Names) < 1 || len(o.Names) > api.MaxOptions {
			return api.ErrTypeSize
		}
		for i, name := range o.Names {
			if errno := newName(name, o.Names[:i]); errno != api.OK {
				return errno
			}
		}
		return api.OK
	})
}

func (c *checker) tables() (api.Spot, api.Errno) {
	return firstOf(partTables, c.pack.Tables, func(t api.Table) api.Errno {
		if errno := c.name(t.Name); errno != api.OK {
			return errno
		}
		if len(t.Bands) < 1 || len(t.Bands) > api.MaxBands {
			return api.ErrTypeSize
		}
		if !rising(t.Bands) {
			return api.ErrTypeTable
		}
		return api.OK
	})
}

// rising tells whether bands begin at 0 and each takes up behind the one ahead of it, at a rate that may be.
func rising(bands []api.Band) bool {
	for i, b := range bands {
		if i == 0 && b.From != 0 || i > 0 && b.From <= bands[i-1].From || b.From > api.MaxCents {
			return false
		}
		if b.Rate < 0 || b.Rate > 1000000 {
			return false
		}
	}
	return true
}

func (c *checker) groups() (api.Spot, api.Errno) {
	return firstOf(partGroups, c.pack.Groups, func(g api.Group) api.Errno {
		if errno := c.name(g.Name); errno != api.OK {
			return errno
		}
		if g.Rows < 1 || g.Rows > api.MaxRows {
			return api.ErrTypeGroup
		}
		return api.OK
	})
}

// inGroup tells whether a line or check may have that group.
func (c *checker) inGroup(group int) bool { return group == -1 || has(c.pack.Groups, int64(group)) }

func (c *checker) checks() (api.Spot, api.Errno) {
	return firstOf(partChecks, c.pack.Checks, func(k api.Check) api.Errno {
		if errno := c.name(k.Name); errno != api.OK {
			return errno
		}
		if !c.inGroup(k.Group) {
			return api.ErrTypeGroup
		}
		if !isText(k.Text) {
			return api.ErrTypeName
		}
		return api.OK
	})
}

func (c *checker) cells() (api.Spot, api.Errno) {
	if Cells(c.pack) > api.MaxCells {
		return itemAt(partPack, 0), api.ErrTypeSize
	}
	return api.Spot{}, api.OK
}
