package pack

import "levy/api"

// reader: the bytes, how far they are read, and the first fault that was met. Behind a fault nothing is left to read, and lists are left: what the pieces say from there on doesn't count.
type reader struct {
	bytes []byte
	at    int
	fault int
	errno api.Errno
}

// fail keeps the first fault, and its place.
func (r *reader) fail(at int, errno api.Errno) {
	if r.errno == api.OK {
		r.fault, r.errno = at, errno
	}
	r.at = len(r.bytes)
}

func (r *reader) short() { r.fail(len(r.bytes), api.ErrPackShort) }

func (r *reader) left() int { return len(r.bytes) - r.at }

// getList reads a list of anything, by the function that reads one item. It grows as items come: the length alone may say far more than there are.
func getList[T any](r *reader, item func() T) []T {
	var l []T
	for range r.length() {
		l = append(l, item())
		if r.errno != api.OK {
			return nil
		}
	}
	return l
}

func (r *reader) number() uint64 {
	n := uint64(0)
	for i, b := range r.bytes[r.at:] {
		if i == 9 && b > 1 || i > 0 && b == 0 { // the tenth group has room for one bit
			r.fail(r.at, api.ErrPackForm)
			return 0
		}
		n |= uint64(b&0x7f) << (7 * i)
		if b < 0x80 {
			r.at += i + 1
			return n
		}
	}
	r.short()
	return 0
}

// length reads how many bytes a text has, or items a list: each item has a byte at least.
func (r *reader) length() int {
	n := r.number()
	if n > uint64(r.left()) {
		r.short()
		return 0
	}
	return int(n)
}

// integer reads the numbers 0, 1, 2, 3, 4 .. as 0, -1, 1, -2, 2 ..
func (r *reader) integer() int64 {
	n := r.number()
	if n%2 == 1 {
		return ^int64(n / 2)
	}
	return int64(n / 2)
}

// nonzero reads an int that isn't there where it is 0.
func (r *reader) nonzero() int64 {
	at := r.at
	n := r.integer()
	if n == 0 {
		r.fail(at, api.ErrPackForm)
	}
	return n
}

// raw reads so many bytes.
func (r *reader) raw(n int) string {
	if n > r.left() {
		r.short()
		return ""
	}
	r.at += n
	return string(r.bytes[r.at-n : r.at])
}

func (r *reader) text() string { return r.raw(r.length()) }

// oneByte reads a byte that may not be above most.
func (r *reader) oneByte(most byte) byte {
	if r.left() == 0 {
		r.short()
		return 0
	}
	b := r.bytes[r.at]
	if b > most {
		r.fail(r.at, api.ErrPackForm)
		return 0
	}
	r.at++
	return b
}

func (r *reader) flag() bool { return r.oneByte(1) == 1 }

// expr reads an expression that stands so deep.
func (r *reader) expr(deep int) (e api.Expr) {
	if deep > maxDeep {
		r.fail(r.at, api.ErrPackBound)
		return e
	}
	e.Op = int(r.integer())
	has := r.oneByte(hasAll)
	if has&hasNum != 0 {
		e.Num = r.nonzero()
	}
	if has&hasDen != 0 {
		e.Den = r.nonzero()
	}
	if has&hasMode != 0 {
		e.Mode = int(r.nonzero())
	}
	if has&hasArgs != 0 {
		e.Args = r.args(deep + 1)
	}
	return e
}

// args reads the Args of an expression: a list that isn't there where it is empty.
func (r *reader) args(deep int) []api.Expr {
	at := r.at
	l := getList(r, func() api.Expr { return r.expr(deep) })
	if len(l) == 0 {
		r.fail(at, api.ErrPackForm)
	}
	return l
}

func (r *reader) clause() (c api.Clause) {
	c.Priority = int(r.integer())
	c.Guarded = r.flag()
	c.Guard = r.expr(1)
	c.Body = r.expr(1)
	return c
}

func (r *reader) line() (l api.Line) {
	l.Name = r.text()
	l.Input = r.flag()
	l.Must = r.flag()
	l.Type = int(r.integer())
	l.Options = int(r.integer())
	l.Group = int(r.integer())
	l.Clauses = getList(r, r.clause)
	return l
}

func (r *reader) check() (c api.Check) {
	c.Name = r.text()
	c.Hard = r.flag()
	c.Group = int(r.integer())
	c.When = r.expr(1)
	c.Text = r.text()
	return c
}

func (r *reader) band() (b api.Band) {
	b.From = r.integer()
	b.Rate = r.integer()
	return b
}

func (r *reader) table() (t api.Table) {
	t.Name = r.text()
	t.Bands = getList(r, r.band)
	return t
}

func (r *reader) options() (o api.Options) {
	o.Name = r.text()
	o.Names = getList(r, r.text)
	return o
}

func (r *reader) group() (g api.Group) {
	g.Name = r.text()
	g.Rows = int(r.integer())
	return g
}

func (r *reader) pack() (p api.Pack) {
	if r.raw(len(head)) != head {
		r.fail(0, api.ErrPackForm)
	}
	p.Name = r.text()
	p.Year = int(r.integer())
	p.Options = getList(r, r.options)
	p.Tables = getList(r, r.table)
	p.Groups = getList(r, r.group)
	p.Lines = getList(r, r.line)
	p.Checks = getList(r, r.check)
	r.sum()
	return p
}

// sum reads the number by which all bytes ahead of it are known: nothing may stand behind it.
func (r *reader) sum() {
	at, n := r.at, Sum(r.bytes[:r.at])
	end := r.raw(4)
	if end != string([]byte{byte(n), byte(n >> 8), byte(n >> 16), byte(n >> 24)}) {
		r.fail(at, api.ErrPackSum)
	}
	if r.left() > 0 {
		r.fail(r.at, api.ErrPackMore)
	}
}
