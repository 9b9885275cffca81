package types

import "levy/api"

func (c *checker) lines() (api.Spot, api.Errno) {
	for i, l := range c.pack.Lines {
		if errno := c.line(l); errno != api.OK {
			return itemAt(partLines, i), errno
		}
		for j := range l.Clauses {
			if !isClause(l.Clauses, j) {
				return api.Spot{Part: partLines, At: i, Clause: j}, api.ErrTypeClause
			}
		}
	}
	return api.Spot{}, api.OK
}

// line looks at what a line is, without its clauses.
func (c *checker) line(l api.Line) api.Errno {
	if errno := c.name(l.Name); errno != api.OK {
		return errno
	}
	if !c.isTyped(l) {
		return api.ErrTypeLine
	}
	if !c.inGroup(l.Group) {
		return api.ErrTypeGroup
	}
	if n := len(l.Clauses); l.Input && n > 0 || !l.Input && (n < 1 || n > api.MaxClauses) {
		return api.ErrTypeLine
	}
	return api.OK
}

func (c *checker) isTyped(l api.Line) bool {
	if l.Type == api.Choice {
		return has(c.pack.Options, int64(l.Options))
	}
	return isKind(l.Type) && l.Options == -1
}

// isClause tells whether a clause of a line may stand where it stands: the default first, behind it exceptions of unlike priorities.
func isClause(l []api.Clause, n int) bool {
	c := l[n]
	if n == 0 {
		return c.Priority == 0 && !c.Guarded && isZero(c.Guard)
	}
	for _, ahead := range l[:n] {
		if ahead.Priority == c.Priority {
			return false
		}
	}
	return c.Guarded && c.Priority >= 1 && c.Priority <= 9
}

func isZero(e api.Expr) bool {
	return e.Op == 0 && e.Num == 0 && e.Den == 0 && e.Mode == 0 && len(e.Args) == 0
}

// What a line's path begins with.
const (
	inGuard = iota
	inBody
)

func (c *checker) lineExprs() (api.Spot, api.Errno) {
	for i, l := range c.pack.Lines {
		x := exprs{checker: c, group: l.Group}
		for j, clause := range l.Clauses {
			at := api.Spot{Part: partLines, At: i, Clause: j}
			if clause.Guarded {
				at.Path = []int{inGuard}
				if spot, errno := x.next(at, plain(api.Flag), clause.Guard); errno != api.OK {
					return spot, errno
				}
			}
			at.Path = []int{inBody}
			if spot, errno := x.next(at, lineKind(l), clause.Body); errno != api.OK {
				return spot, errno
			}
		}
	}
	return api.Spot{}, api.OK
}

func (c *checker) checkExprs() (api.Spot, api.Errno) {
	for i, k := range c.pack.Checks {
		x := exprs{checker: c, group: k.Group}
		if spot, errno := x.next(itemAt(partChecks, i), plain(api.Flag), k.When); errno != api.OK {
			return spot, errno
		}
	}
	return api.Spot{}, api.OK
}

// exprs: the expressions of one line or check, which together may have so many nodes.
type exprs struct {
	*checker
	group, nodes int
}

// next looks at the next expression, whose root is at a place, and which must be of a kind.
func (x *exprs) next(root api.Spot, must kind, e api.Expr) (api.Spot, api.Errno) {
	l := look{scope: scope{x.pack, x.group}, operators: x.operators}
	k, errno := l.node(e)
	if errno != api.OK {
		root.Path = append(root.Path, l.path...)
		return root, errno
	}
	if k != must {
		return root, api.ErrTypeKind
	}
	x.nodes += l.nodes
	if x.nodes > api.MaxNodes {
		return root, api.ErrTypeSize
	}
	return api.Spot{}, api.OK
}
