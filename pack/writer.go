package pack

import "levy/api"

// writer: the bytes up to here. Once it is beyond a bound it takes nothing more, and lists are left: so packs of any size come to an end, and those whose lists hold themselves.
type writer struct {
	bytes  []byte
	beyond bool
}

// putList writes a list of anything, by the function that writes one item.
func putList[T any](w *writer, l []T, item func(T)) {
	w.number(uint64(len(l)))
	for _, x := range l {
		if w.beyond {
			return
		}
		item(x)
	}
}

func (w *writer) raw(s string) {
	w.beyond = w.beyond || len(s) > api.MaxPack-len(w.bytes)
	if !w.beyond {
		w.bytes = append(w.bytes, s...)
	}
}

func (w *writer) oneByte(b byte) {
	w.beyond = w.beyond || len(w.bytes) == api.MaxPack
	if !w.beyond {
		w.bytes = append(w.bytes, b)
	}
}

func (w *writer) number(n uint64) {
	for ; n >= 0x80; n >>= 7 {
		w.oneByte(byte(n) | 0x80)
	}
	w.oneByte(byte(n))
}

// integer writes 0, -1, 1, -2, 2 .. as the numbers 0, 1, 2, 3, 4 ..
func (w *writer) integer(n int64) {
	if n < 0 {
		w.number(2*uint64(^n) + 1) // ^n is -n - 1, which there is for the least int too
	} else {
		w.number(2 * uint64(n))
	}
}

func (w *writer) text(s string) {
	w.number(uint64(len(s)))
	w.raw(s)
}

func (w *writer) flag(is bool) {
	if is {
		w.oneByte(1)
	} else {
		w.oneByte(0)
	}
}

// fields tells an expression's byte.
func fields(e api.Expr) byte {
	b := byte(0)
	if e.Num != 0 {
		b |= hasNum
	}
	if e.Den != 0 {
		b |= hasDen
	}
	if e.Mode != 0 {
		b |= hasMode
	}
	if len(e.Args) > 0 {
		b |= hasArgs
	}
	return b
}

// expr writes an expression that stands so deep.
func (w *writer) expr(e api.Expr, deep int) {
	if deep > maxDeep {
		w.beyond = true
		return
	}
	w.integer(int64(e.Op))
	w.oneByte(fields(e))
	for _, n := range [...]int64{e.Num, e.Den, int64(e.Mode)} {
		if n != 0 {
			w.integer(n)
		}
	}
	if len(e.Args) > 0 {
		putList(w, e.Args, func(a api.Expr) { w.expr(a, deep+1) })
	}
}

func (w *writer) clause(c api.Clause) {
	w.integer(int64(c.Priority))
	w.flag(c.Guarded)
	w.expr(c.Guard, 1)
	w.expr(c.Body, 1)
}

func (w *writer) line(l api.Line) {
	w.text(l.Name)
	w.flag(l.Input)
	w.flag(l.Must)
	w.integer(int64(l.Type))
	w.integer(int64(l.Options))
	w.integer(int64(l.Group))
	putList(w, l.Clauses, w.clause)
}

func (w *writer) check(c api.Check) {
	w.text(c.Name)
	w.flag(c.Hard)
	w.integer(int64(c.Group))
	w.expr(c.When, 1)
	w.text(c.Text)
}

func (w *writer) band(b api.Band) {
	w.integer(b.From)
	w.integer(b.Rate)
}

func (w *writer) table(t api.Table) {
	w.text(t.Name)
	putList(w, t.Bands, w.band)
}

func (w *writer) options(o api.Options) {
	w.text(o.Name)
	putList(w, o.Names, w.text)
}

func (w *writer) group(g api.Group) {
	w.text(g.Name)
	w.integer(int64(g.Rows))
}

func (w *writer) pack(p api.Pack) {
	w.raw(head)
	w.text(p.Name)
	w.integer(int64(p.Year))
	putList(w, p.Options, w.options)
	putList(w, p.Tables, w.table)
	putList(w, p.Groups, w.group)
	putList(w, p.Lines, w.line)
	putList(w, p.Checks, w.check)
	w.sum()
}

// sum writes the number by which all bytes ahead of it are known.
func (w *writer) sum() {
	n := Sum(w.bytes)
	for range 4 {
		w.oneByte(byte(n))
		n >>= 8
	}
}
