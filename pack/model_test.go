package pack_test

import (
	"encoding/binary"
	"hash/fnv"
	"reflect"

	"levy/api"
)

// A model of the chapter: the fields of all parts but expressions stand in the bytes in the order in which package api has them, so one walk through a type writes or reads any of them.

func modelSum(b []byte) uint32 {
	h := fnv.New32a()
	h.Write(b)
	return h.Sum32()
}

// modelPut: a pack's bytes, whatever their number; false, if an expression is too deep.
func modelPut(p api.Pack) (b []byte, ok bool) {
	defer func() {
		if recover() != nil {
			b, ok = nil, false
		}
	}()
	return closed(modelWrite([]byte{0x4c, 0x56, 0x59, 0x31}, reflect.ValueOf(p), 1)), true
}

func modelWrite(b []byte, v reflect.Value, deep int) []byte {
	if e, is := v.Interface().(api.Expr); is {
		return modelWriteExpr(b, e, deep)
	}
	switch v.Kind() {
	case reflect.Int, reflect.Int64:
		return binary.AppendVarint(b, v.Int())
	case reflect.String:
		return append(binary.AppendUvarint(b, uint64(v.Len())), v.String()...)
	case reflect.Bool:
		return append(b, map[bool]byte{true: 1}[v.Bool()])
	case reflect.Slice:
		b = binary.AppendUvarint(b, uint64(v.Len()))
		for i := range v.Len() {
			b = modelWrite(b, v.Index(i), deep)
		}
		return b
	}
	for i := range v.NumField() {
		b = modelWrite(b, v.Field(i), deep)
	}
	return b
}

func modelWriteExpr(b []byte, e api.Expr, deep int) []byte {
	if deep > 64 {
		panic("too deep")
	}
	has, rest := byte(0), []byte(nil)
	for i, n := range []int64{e.Num, e.Den, int64(e.Mode)} {
		if n != 0 {
			has += 1 << i
			rest = binary.AppendVarint(rest, n)
		}
	}
	if len(e.Args) > 0 {
		has += 8
		rest = modelWrite(rest, reflect.ValueOf(e.Args), deep+1)
	}
	return append(append(binary.AppendVarint(b, int64(e.Op)), has), rest...)
}

// misread: where the model gives up.
type misread struct {
	at    int
	errno api.Errno
}

// modelReader: the bytes that are left, and how many there were.
type modelReader struct {
	left []byte
	all  int
}

func modelGet(b []byte) (p api.Pack, at int, errno api.Errno) {
	if len(b) > 131072 {
		return api.Pack{}, 0, api.ErrPackBound
	}
	defer func() {
		if m, is := recover().(misread); is {
			p, at, errno = api.Pack{}, m.at, m.errno
		}
	}()
	r := &modelReader{b, len(b)}
	if string(r.take(4)) != "LVY1" {
		panic(misread{0, api.ErrPackForm})
	}
	r.read(reflect.ValueOf(&p).Elem(), 1)
	end := r.at()
	if binary.LittleEndian.Uint32(r.take(4)) != modelSum(b[:end]) {
		panic(misread{end, api.ErrPackSum})
	}
	if len(r.left) > 0 {
		panic(misread{r.at(), api.ErrPackMore})
	}
	return p, 0, api.OK
}

func (r *modelReader) at() int { return r.all - len(r.left) }

// take gives some bytes, which must be there.
func (r *modelReader) take(n uint64) []byte {
	if n > uint64(len(r.left)) {
		panic(misread{r.all, api.ErrPackShort})
	}
	b := r.left[:n]
	r.left = r.left[n:]
	return b
}

func (r *modelReader) number() uint64 {
	at := r.at()
	n, used := binary.Uvarint(r.left)
	if used == 0 && len(r.left) < 10 {
		panic(misread{r.all, api.ErrPackShort})
	}
	if used <= 0 || used > 1 && r.left[used-1] == 0 {
		panic(misread{at, api.ErrPackForm})
	}
	r.take(uint64(used))
	return n
}

func (r *modelReader) read(v reflect.Value, deep int) {
	if _, is := v.Interface().(api.Expr); is {
		r.readExpr(v, deep)
		return
	}
	at := r.at()
	switch v.Kind() {
	case reflect.Int, reflect.Int64:
		n := r.number()
		v.SetInt(int64(n>>1) ^ -int64(n&1))
	case reflect.String:
		v.SetString(string(r.take(r.number())))
	case reflect.Bool:
		b := r.take(1)[0]
		if b > 1 {
			panic(misread{at, api.ErrPackForm})
		}
		v.SetBool(b == 1)
	case reflect.Slice:
		n := r.number()
		if n > uint64(len(r.left)) {
			panic(misread{r.all, api.ErrPackShort})
		}
		for range n {
			x := reflect.New(v.Type().Elem()).Elem()
			r.read(x, deep)
			v.Set(reflect.Append(v, x))
		}
	default:
		for i := range v.NumField() {
			r.read(v.Field(i), deep)
		}
	}
}

func (r *modelReader) readExpr(v reflect.Value, deep int) {
	if deep > 64 {
		panic(misread{r.at(), api.ErrPackBound})
	}
	r.read(v.FieldByName("Op"), deep)
	at := r.at()
	has := r.take(1)[0]
	if has > 15 {
		panic(misread{at, api.ErrPackForm})
	}
	for i, name := range []string{"Num", "Den", "Mode", "Args"} {
		if has>>i&1 == 0 {
			continue
		}
		at := r.at()
		r.read(v.FieldByName(name), deep+1)
		if v.FieldByName(name).IsZero() {
			panic(misread{at, api.ErrPackForm})
		}
	}
}
