package pack_test

import (
	"bytes"
	"math/rand"
	"reflect"
	"strings"
	"testing"

	"levy/api"
	"levy/pack"
	"levy/types"
)

func TestP7_8ThereAndBack(t *testing.T) {
	r := rand.New(rand.NewSource(8))
	for range 5000 {
		p := madePack(r)
		want, _ := modelPut(p)
		both(t, "a made pack", p, want)
	}
	deep, wide := sample(), sample()
	deep.Checks[0].When, wide.Checks[1].When.Args = nested(64), make([]api.Expr, 20000)
	for _, p := range []api.Pack{{}, sample(), deep, wide} {
		want, _ := modelPut(p)
		both(t, "a pack", p, want)
	}
}

func TestP7_8BackAndThere(t *testing.T) {
	r := rand.New(rand.NewSource(88))
	taken, other := 0, 0
	for range 4000 {
		b, _ := modelPut(madePack(r))
		for range 10 {
			c := spoil(r, b)
			p, _, e := pack.Get(c)
			if e != api.OK {
				continue
			}
			taken++
			if !bytes.Equal(b, c) {
				other++
			}
			puts(t, "what Get took", p, c)
		}
	}
	if taken < 500 || other < 500 {
		t.Errorf("%d taken, %d of them changed: the test has lost its weight", taken, other)
	}
}

// eachField calls do with every number, text, flag and list of a value, expressions' Args among them.
func eachField(v reflect.Value, do func(reflect.Value)) {
	switch v.Kind() {
	case reflect.Struct:
		for i := range v.NumField() {
			eachField(v.Field(i), do)
		}
		return
	case reflect.Slice:
		for i := range v.Len() {
			eachField(v.Index(i), do)
		}
	}
	do(v)
}

// changed: packs that differ from this one in one place.
func changed(p func() api.Pack) []api.Pack {
	var l []api.Pack
	fields, done := 1, 0
	for at := 0; at < fields; at++ {
		for way := range 3 {
			q := p()
			done = 0
			eachField(reflect.ValueOf(&q).Elem(), func(v reflect.Value) {
				if done == at {
					changeField(v, way)
				}
				done++
			})
			fields = done
			l = append(l, q)
		}
	}
	return l
}

func changeField(v reflect.Value, way int) {
	switch v.Kind() {
	case reflect.Int, reflect.Int64:
		v.SetInt([]int64{v.Int() + 1, -v.Int() - 1, v.Int() ^ 1<<40}[way])
	case reflect.String:
		v.SetString([]string{v.String() + "x", "x" + v.String() + "y", v.String() + "\x00"}[way])
	case reflect.Bool:
		v.SetBool(!v.Bool())
	case reflect.Slice:
		one := reflect.New(v.Type().Elem()).Elem()
		for range way + 1 {
			v.Set(reflect.Append(v, one))
		}
	}
}

func TestP7_8UnlikePacksHaveUnlikeBytes(t *testing.T) {
	apart := func() api.Pack { p, _ := fieldsApart(); return p }
	for _, p := range []func() api.Pack{sample, apart} {
		said := map[string]string{}
		for _, q := range append(changed(p), p(), api.Pack{}) {
			b, e := pack.Put(q)
			if e != api.OK {
				t.Fatalf("Put: error %d", e)
			}
			if had, is := said[string(b)]; is && had != text(q) {
				t.Errorf("the same bytes: %s and %s", had, text(q))
			}
			said[string(b)] = text(q)
			gets(t, "a changed pack", b, q)
		}
		if len(said) < 200 {
			t.Errorf("%d packs: the test has lost its weight", len(said))
		}
	}
}

func TestP7_9OneByteChanged(t *testing.T) {
	apart, _ := fieldsApart()
	for _, p := range []api.Pack{{}, sample(), apart} {
		b, _ := pack.Put(p)
		for i := range b {
			for x := 1; x < 256; x++ {
				c := bytes.Clone(b)
				c[i] ^= byte(x)
				if asModel(t, "one byte changed", c) == api.OK {
					t.Errorf("byte %d became %X, and is taken", i, c[i])
				}
			}
		}
	}
}

func TestP7_9CutOrLonger(t *testing.T) {
	apart, _ := fieldsApart()
	for _, p := range []api.Pack{{}, sample(), apart, sized(most)["arguments"]} {
		b, _ := pack.Put(p)
		for i := 0; i < len(b); i += 1 + len(b)/most*4000 {
			refused(t, "cut", b[:i], i, api.ErrPackShort)
		}
		refused(t, "cut by one", b[:len(b)-1], len(b)-1, api.ErrPackShort)
		for n := 1; n < 300 && len(b)+n <= most; n++ {
			refused(t, "longer", append(bytes.Clone(b), make([]byte, n)...), len(b), api.ErrPackMore)
			refused(t, "longer", append(bytes.Clone(b), bytes.Repeat([]byte{byte(n)}, n)...), len(b), api.ErrPackMore)
		}
		if len(b) < most/2 {
			refused(t, "twice", append(bytes.Clone(b), b...), len(b), api.ErrPackMore)
		}
	}
}

// chain: an expression of so many nodes, each within the other, as great as they may be.
func chain(nodes int) api.Expr {
	e := api.Expr{Op: api.OpCents, Num: -api.MaxCents}
	for range nodes - 1 {
		e = api.Expr{Op: api.OpScale, Num: -api.MaxRatio, Den: api.MaxRatio, Mode: api.HalfEven, Args: []api.Expr{e}}
	}
	return e
}

// name: names of twelve bytes, unlike for unlike numbers below 676.
func name(lead string, n int) string {
	return lead + strings.Repeat("z", 10-len(lead)) + string([]byte{byte('a' + n/26), byte('a' + n%26)})
}

// greatest: a well-formed pack with as much of everything as may be.
func greatest() api.Pack {
	p := api.Pack{Name: "abcdefghijkl", Year: 2199}
	for n := range 4 {
		o, t := api.Options{Name: name("o", n)}, api.Table{Name: name("t", n)}
		for m := range 8 {
			o.Names = append(o.Names, name("n", m))
			t.Bands = append(t.Bands, api.Band{From: int64(m), Rate: 1000000})
		}
		for m := 1; m < 8; m++ {
			t.Bands[m].From += api.MaxCents - 7
		}
		p.Options, p.Tables, p.Groups = append(p.Options, o), append(p.Tables, t), append(p.Groups, api.Group{Name: name("g", n), Rows: 8})
	}
	sevens := []api.Expr{chain(7), chain(7), chain(7), chain(7), chain(7), chain(7)}
	yes := api.Expr{Op: api.OpFlag, Num: 1}
	less := func(n int) api.Expr { return api.Expr{Op: api.OpLt, Args: []api.Expr{chain(n), chain(n)}} }
	for n := range 48 {
		p.Lines = append(p.Lines, api.Line{Name: name("l", n), Must: true, Type: api.Cents, Options: -1, Group: -1, Clauses: []api.Clause{
			{Body: api.Expr{Op: api.OpAdd, Args: sevens}}, {Priority: 9, Guarded: true, Guard: yes, Body: chain(8)},
			{Priority: 8, Guarded: true, Guard: yes, Body: chain(1)}, {Priority: 7, Guarded: true, Guard: yes, Body: chain(1)}, {Priority: 6, Guarded: true, Guard: yes, Body: chain(1)}, {Priority: 5, Guarded: true, Guard: yes, Body: chain(1)},
		}})
	}
	for n := range 16 {
		p.Checks = append(p.Checks, api.Check{Name: name("c", n), Hard: true, Group: -1, Text: strings.Repeat("~", 40), When: api.Expr{Op: api.OpAnd, Args: []api.Expr{less(6), less(6), less(6), less(6), less(3)}}})
	}
	return p
}

// nodesOf: how many nodes a pack's expressions have, the defaults' guards aside, which are none.
func nodesOf(p api.Pack) int {
	n := 0
	for _, l := range p.Lines {
		for _, c := range l.Clauses {
			n += nodes(c.Body)
			if c.Guarded {
				n += nodes(c.Guard)
			}
		}
	}
	for _, c := range p.Checks {
		n += nodes(c.When)
	}
	return n
}

func nodes(e api.Expr) int {
	n := 1
	for _, a := range e.Args {
		n += nodes(a)
	}
	return n
}

// hasBytes asks that a well-formed pack has bytes, within the chapter's bounds.
func hasBytes(t *testing.T, p api.Pack) {
	t.Helper()
	b, e := pack.Put(p)
	if e != api.OK || len(b) > 18*nodesOf(p)+12000 || len(b) > (48+16)*60*18+12000 {
		t.Errorf("a well-formed pack of %d nodes: %d bytes, error %d", nodesOf(p), len(b), e)
	}
	gets(t, "a well-formed pack", b, p)
}

func TestP7_10WellFormedPacks(t *testing.T) {
	p := greatest()
	if nodesOf(p) != (48+16)*60 {
		t.Fatalf("%d nodes: the pack isn't the greatest", nodesOf(p))
	}
	for _, p := range []api.Pack{p, sample()} {
		if spot, e := types.Check(p); e != api.OK {
			t.Fatalf("the pack isn't well formed: %+v, error %d", spot, e)
		}
		hasBytes(t, p)
	}
}

// formed: an expression of cents, or a flag, over sample's lines.
func formed(r *rand.Rand, flag bool, deep int) api.Expr {
	cents := func() api.Expr { return formed(r, false, deep-1) }
	flags := func() api.Expr { return formed(r, true, deep-1) }
	switch {
	case flag && deep <= 1:
		return pick(r, api.Expr{Op: api.OpFlag, Num: int64(r.Intn(2))}, api.Expr{Op: api.OpIsBlank, Args: []api.Expr{{Op: api.OpLine, Num: 1}}})
	case flag:
		return pick(r, api.Expr{Op: api.OpAnd, Args: []api.Expr{flags(), flags()}}, api.Expr{Op: api.OpNot, Args: []api.Expr{flags()}}, api.Expr{Op: api.OpLe, Args: []api.Expr{cents(), cents()}})
	case deep <= 1:
		return pick(r, api.Expr{Op: api.OpCents, Num: pick[int64](r, 0, -5, api.MaxCents)}, api.Expr{Op: api.OpLine}, api.Expr{Op: api.OpSum, Num: 2})
	}
	return pick(r,
		api.Expr{Op: api.OpAdd, Args: []api.Expr{cents(), cents(), cents()}}, api.Expr{Op: api.OpIf, Args: []api.Expr{flags(), cents(), cents()}},
		api.Expr{Op: api.OpScale, Num: int64(r.Intn(100)), Den: 1 + int64(r.Intn(1000)), Mode: 1 + r.Intn(5), Args: []api.Expr{cents()}}, api.Expr{Op: api.OpBracket, Num: int64(r.Intn(2)), Args: []api.Expr{cents()}},
	)
}

func TestP7_10WellFormedByChance(t *testing.T) {
	r := rand.New(rand.NewSource(10))
	formedOnes := 0
	for range 2000 {
		p := sample()
		p.Lines[3].Clauses[0].Body = formed(r, false, 1+r.Intn(4))
		p.Lines[3].Clauses[1].Guard, p.Lines[3].Clauses[1].Body = formed(r, true, 1+r.Intn(4)), formed(r, false, 1+r.Intn(4))
		for i := range p.Checks {
			p.Checks[i].When = formed(r, true, 1+r.Intn(4))
		}
		if _, e := types.Check(p); e != api.OK {
			continue
		}
		formedOnes++
		hasBytes(t, p)
	}
	if formedOnes < 1000 {
		t.Errorf("%d well-formed packs: the test has lost its weight", formedOnes)
	}
}
