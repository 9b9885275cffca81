package rules

import (
	"strconv"

	"levy/api"
	"levy/words"
)

// The rows of the forms of expressions, from the loosest to the tightest. One in parentheses stands where any row is wanted.
const (
	rowIf = iota
	rowOr
	rowAnd
	rowNot
	rowCompared
	rowAdded
	rowTimes
	rowSigned
	rowSingle
	rowParentheses
)

func row(e api.Expr) int {
	switch e.Op {
	case api.OpIf:
		return rowIf
	case api.OpOr:
		return rowOr
	case api.OpAnd:
		return rowAnd
	case api.OpNot:
		return rowNot
	case api.OpEq, api.OpNe, api.OpLt, api.OpLe, api.OpGt, api.OpGe:
		return rowCompared
	case api.OpAdd, api.OpSub:
		return rowAdded
	case api.OpTimes:
		return rowTimes
	case api.OpNeg:
		return rowSigned
	case api.OpCents, api.OpCount:
		if e.Num < 0 {
			return rowSigned
		}
	}
	return rowSingle
}

// operand writes an expression where one of a row is wanted.
func (w *writer) operand(e api.Expr, wanted int) {
	if row(e) >= wanted {
		w.expr(e)
		return
	}
	w.put("(")
	w.expr(e)
	w.put(")")
}

func (w *writer) expr(e api.Expr) {
	w.deep++
	// The reading would refuse it too, but a list that holds itself never comes to that.
	if w.deep > api.MaxDeep {
		panic(api.ErrRulesPrint)
	}
	switch e.Op {
	case api.OpCents:
		w.put(words.Amount(e.Num))
	case api.OpCount:
		w.put(strconv.FormatInt(e.Num, 10))
	case api.OpFlag:
		w.put(flagText(e.Num))
	case api.OpDay:
		w.put(dayText(e.Num))
	case api.OpChoice:
		table := at(w.names.Options, e.Den)
		w.put(table.Name, ".", at(table.Names, e.Num))
	case api.OpLine:
		w.put(at(w.names.Lines, e.Num).Name)
	case api.OpIf:
		w.conditional(e)
	case api.OpOr:
		w.joined(e, " or ", rowAnd)
	case api.OpAnd:
		w.joined(e, " and ", rowNot)
	case api.OpNot:
		w.put("not ")
		w.operand(at(e.Args, 0), rowNot)
	case api.OpEq, api.OpNe, api.OpLt, api.OpLe, api.OpGt, api.OpGe:
		w.between(e, comparisonText(e.Op), rowAdded, rowAdded)
	case api.OpAdd:
		w.added(e)
	case api.OpSub:
		w.between(e, " - ", rowAdded, rowTimes)
	case api.OpTimes:
		w.between(e, " * ", rowTimes, rowSigned)
	case api.OpNeg:
		w.opposite(at(e.Args, 0))
	default:
		w.called(e)
	}
	w.deep--
}

func (w *writer) conditional(e api.Expr) {
	w.put("if ")
	w.expr(at(e.Args, 0))
	w.put(" then ")
	w.expr(at(e.Args, 1))
	w.put(" else ")
	w.expr(at(e.Args, 2))
}

func (w *writer) between(e api.Expr, sign string, left, right int) {
	w.operand(at(e.Args, 0), left)
	w.put(sign)
	w.operand(at(e.Args, 1), right)
}

func comparisonText(op int) string {
	switch op {
	case api.OpEq:
		return " = "
	case api.OpNe:
		return " != "
	case api.OpLt:
		return " < "
	case api.OpLe:
		return " <= "
	case api.OpGt:
		return " > "
	}
	return " >= "
}

func (w *writer) joined(e api.Expr, sign string, wanted int) {
	for i, a := range e.Args {
		if i > 0 {
			w.put(sign)
		}
		w.operand(a, wanted)
	}
}

// added leaves a first OpSub without parentheses: a + behind one begins an OpAdd anew. An OpAdd it would go on with.
func (w *writer) added(e api.Expr) {
	first := rowTimes
	if at(e.Args, 0).Op == api.OpSub {
		first = rowAdded
	}
	w.operand(e.Args[0], first)
	for _, a := range e.Args[1:] {
		w.put(" + ")
		w.operand(a, rowTimes)
	}
}

// opposite parts a - from a number that it would else be a part of.
func (w *writer) opposite(e api.Expr) {
	w.put("-")
	if (e.Op == api.OpCents || e.Op == api.OpCount) && e.Num >= 0 {
		w.operand(e, rowParentheses)
		return
	}
	w.operand(e, rowSigned)
}

func (w *writer) called(e api.Expr) {
	c := callOf(e.Op)
	w.put(c.name, "(")
	args := e.Args
	for i, letter := range c.takes {
		switch letter {
		case 'e':
			w.put(separator(i))
			w.expr(at(args, 0))
			args = args[1:]
		case '+':
			for _, a := range args {
				w.put(", ")
				w.expr(a)
			}
		default:
			w.put(separator(i), w.argument(e, letter))
		}
	}
	w.put(")")
}

func callOf(op int) call {
	for _, c := range calls {
		if c.op == op {
			return c
		}
	}
	panic(api.ErrRulesPrint)
}

// argument tells the text of what stands for a letter of a call's takes, but for expressions.
func (w *writer) argument(e api.Expr, letter rune) string {
	switch letter {
	case 'l':
		return at(w.names.Lines, e.Num).Name
	case 'b':
		return at(w.names.Lines, at(e.Args, 0).Num).Name
	case 'g':
		return at(w.names.Groups, e.Num).Name
	case 't':
		return at(w.names.Tables, e.Num).Name
	case 'r':
		return ratioText(e.Num, e.Den)
	case 'a':
		return words.Amount(e.Num)
	}
	if e.Mode < api.Down || e.Mode > api.HalfEven {
		panic(api.ErrRulesPrint)
	}
	return modes[e.Mode]
}
