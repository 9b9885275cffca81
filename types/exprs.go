package types

import "levy/api"

// look: a walk over an expression's nodes. Where a fault is met the path is left as it stands, at the node that is told.
type look struct {
	scope
	operators []operator
	nodes     int // how many were met
	path      []int
}

// node tells what a node is worth. It asks for the size ahead of all else, so that a list that holds itself is left too.
func (l *look) node(e api.Expr) (kind, api.Errno) {
	l.nodes++
	if len(l.path) >= api.MaxDeep || l.nodes > api.MaxNodes {
		return kind{}, api.ErrTypeSize
	}
	if e.Op < api.OpCents || e.Op >= len(l.operators) {
		return kind{}, api.ErrTypeOp
	}
	o := l.operators[e.Op]
	if !o.takes(e) {
		return kind{}, api.ErrTypeOp
	}
	if o.finds != nil && !o.finds(l.scope, e) {
		return kind{}, api.ErrTypeRef
	}
	args, errno := l.args(e.Args)
	if errno != api.OK {
		return kind{}, errno
	}
	return l.worth(o, e, args)
}

// takes tells whether the numbers, and how many arguments there are, are as the operator asks.
func (o operator) takes(e api.Expr) bool {
	if !o.num.holds(e.Num) || !o.den.holds(e.Den) || !o.mode.holds(int64(e.Mode)) {
		return false
	}
	if len(e.Args) < o.least || len(e.Args) > o.most {
		return false
	}
	for _, a := range e.Args {
		if o.only != 0 && a.Op != o.only {
			return false
		}
	}
	return true
}

func (l *look) args(list []api.Expr) ([]kind, api.Errno) {
	var kinds []kind
	for i, e := range list {
		l.path = append(l.path, i)
		k, errno := l.node(e)
		if errno != api.OK {
			return nil, errno
		}
		l.path = l.path[:len(l.path)-1]
		kinds = append(kinds, k)
	}
	return kinds, api.OK
}

// worth tells the kind of a node whose arguments have no faults of their own.
func (l *look) worth(o operator, e api.Expr, args []kind) (kind, api.Errno) {
	if i := blamed(args, o.needs); i >= 0 {
		l.path = append(l.path, i)
		return kind{}, api.ErrTypeKind
	}
	k, ok := o.kind(l.scope, e, args)
	if !ok {
		return kind{}, api.ErrTypeKind
	}
	return k, api.OK
}

// blamed tells the first argument that isn't what it must be; -1: none.
func blamed(kinds []kind, needs [2]need) int {
	first := -1
args:
	for i, k := range kinds {
		n := needs[min(i, 1)]
		switch {
		case !k.in(n.kinds), k != kinds[n.like]:
			first = i
			break args
		}
	}
	return first
}
