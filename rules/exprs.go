package rules

import "levy/api"

// whole reads the expression of a clause, of a check, or of a text that is one.
func (r *reader) whole() api.Expr {
	first := r.peek()
	e := r.expr()
	if depth(e) > api.MaxDeep {
		panic(r.fault(first, api.ErrRulesDeep))
	}
	return e
}

func depth(e api.Expr) int {
	below := 0
	for _, a := range e.Args {
		below = max(below, depth(a))
	}
	return 1 + below
}

// expr reads row 0 of the forms of expressions; each row asks for its operands the one that binds tighter.
func (r *reader) expr() api.Expr {
	if !r.takes("if") {
		return r.anyOf()
	}
	condition := r.expr()
	r.want("then")
	yes := r.expr()
	r.want("else")
	no := r.expr()
	return api.Expr{Op: api.OpIf, Args: []api.Expr{condition, yes, no}}
}

func (r *reader) anyOf() api.Expr { return r.joined(api.OpOr, "or", r.allOf) }

func (r *reader) allOf() api.Expr { return r.joined(api.OpAnd, "and", r.denied) }

// joined reads operands with a word between them, all of them one operator's.
func (r *reader) joined(op int, word string, operand func() api.Expr) api.Expr {
	first := operand()
	if !r.sees(word) {
		return first
	}
	args := []api.Expr{first}
	for r.sees(word) {
		args = append(args, r.oneMore(args, operand))
	}
	return api.Expr{Op: op, Args: args}
}

// oneMore passes the word, sign or comma ahead of a further operand, if there may be one, and reads it.
func (r *reader) oneMore(args []api.Expr, operand func() api.Expr) api.Expr {
	if len(args) >= api.MaxArgs {
		panic(r.fault(r.peek(), api.ErrRulesMany))
	}
	r.next++
	return operand()
}

func (r *reader) denied() api.Expr {
	if r.takes("not") {
		return api.Expr{Op: api.OpNot, Args: []api.Expr{r.denied()}}
	}
	return r.compared()
}

func (r *reader) compared() api.Expr {
	left := r.added()
	op := comparison(r.peek())
	if op == 0 {
		return left
	}
	r.next++
	right := r.added()
	return api.Expr{Op: op, Args: []api.Expr{left, right}}
}

// comparison tells which one a token is (0: none).
func comparison(t api.Token) int {
	if t.Kind != api.TokenSign {
		return 0
	}
	switch t.Text {
	case "=":
		return api.OpEq
	case "!=":
		return api.OpNe
	case "<":
		return api.OpLt
	case "<=":
		return api.OpLe
	case ">":
		return api.OpGt
	case ">=":
		return api.OpGe
	}
	return 0
}

func (r *reader) added() api.Expr {
	e := r.multiplied()
	open := false // whether e is an OpAdd that a + goes on with: one in parentheses isn't
	for {
		switch {
		case r.sees("+"):
			if !open {
				e, open = api.Expr{Op: api.OpAdd, Args: []api.Expr{e}}, true
			}
			e.Args = append(e.Args, r.oneMore(e.Args, r.multiplied))
		case r.takes("-"):
			right := r.multiplied()
			e, open = api.Expr{Op: api.OpSub, Args: []api.Expr{e, right}}, false
		default:
			return e
		}
	}
}

func (r *reader) multiplied() api.Expr {
	e := r.signed()
	for r.takes("*") {
		right := r.signed()
		e = api.Expr{Op: api.OpTimes, Args: []api.Expr{e, right}}
	}
	return e
}

func (r *reader) signed() api.Expr {
	if !r.takes("-") {
		return r.single()
	}
	switch t := r.peek(); t.Kind {
	case api.TokenAmount, api.TokenCount:
		e := r.single()
		e.Num = -e.Num
		return e
	}
	return api.Expr{Op: api.OpNeg, Args: []api.Expr{r.signed()}}
}

func (r *reader) single() api.Expr {
	switch t := r.peek(); t.Kind {
	case api.TokenAmount:
		r.next++
		return api.Expr{Op: api.OpCents, Num: t.Num}
	case api.TokenCount:
		r.next++
		return api.Expr{Op: api.OpCount, Num: t.Num}
	case api.TokenDate:
		r.next++
		return api.Expr{Op: api.OpDay, Num: t.Num}
	}
	switch {
	case r.takes("yes"):
		return api.Expr{Op: api.OpFlag, Num: 1}
	case r.takes("no"):
		return api.Expr{Op: api.OpFlag}
	case r.takes("("):
		e := r.expr()
		r.want(")")
		return e
	}
	return r.named()
}

// named reads what begins with a name: the token behind it tells what that is.
func (r *reader) named() api.Expr {
	behind := r.tokenAt(r.next + 1)
	switch {
	case is(behind, "("):
		return r.called()
	case is(behind, "."):
		return r.choice()
	}
	return r.lineRef()
}

func (r *reader) choice() api.Expr {
	table := r.wantKnown(r.names.options)
	r.want(".")
	option := r.wantKnown(r.names.choices[table])
	return api.Expr{Op: api.OpChoice, Num: int64(option), Den: int64(table)}
}

func (r *reader) lineRef() api.Expr {
	return api.Expr{Op: api.OpLine, Num: int64(r.wantKnown(r.names.lines))}
}
