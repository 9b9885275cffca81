package pack_test

import (
	"bytes"
	"math/rand"
	"reflect"
	"sort"
	"testing"

	"levy/api"
	"levy/pack"
)

// The chapter's words on memory, of all calls.

// eachList calls do with every list of a value, those in its spare room aside, the inner ones first.
func eachList(v reflect.Value, do func(reflect.Value)) {
	eachField(v, func(f reflect.Value) {
		if f.Kind() == reflect.Slice {
			do(f)
		}
	})
}

// junk: a value of a type that no test puts there.
func junk(t reflect.Type) reflect.Value {
	v := reflect.New(t).Elem()
	switch t.Kind() {
	case reflect.Struct:
		for i := range t.NumField() {
			v.Field(i).Set(junk(t.Field(i).Type))
		}
	case reflect.Int, reflect.Int64:
		v.SetInt(-987654321)
	case reflect.String:
		v.SetString("junk")
	case reflect.Bool:
		v.SetBool(true)
	}
	return v
}

// roomy gives every list of a pack spare room with something in it.
func roomy(p *api.Pack) {
	eachList(reflect.ValueOf(p).Elem(), func(l reflect.Value) {
		n := l.Len()
		l.Set(reflect.Append(l, junk(l.Type().Elem()), junk(l.Type().Elem())).Slice(0, n))
	})
}

// laidOpen tells a pack with all spare room.
func laidOpen(p api.Pack) string {
	s := text(p)
	eachList(reflect.ValueOf(&p).Elem(), func(l reflect.Value) { s += text(l.Slice(0, l.Cap()).Interface()) })
	return s
}

// scribble writes junk into all that the lists of a pack have, spare room too.
func scribble(p *api.Pack) {
	eachList(reflect.ValueOf(p).Elem(), func(l reflect.Value) {
		all := l.Slice(0, l.Cap())
		for i := range all.Len() {
			all.Index(i).Set(junk(l.Type().Elem()))
		}
	})
}

func scribbleBytes(b []byte) {
	b = b[:cap(b)]
	for i := range b {
		b[i] = 0xa5
	}
}

func TestP7_6ArgumentsStayAsTheyAre(t *testing.T) {
	r := rand.New(rand.NewSource(61))
	for range 500 {
		p := madePack(r)
		want, _ := modelPut(p)
		roomy(&p)
		was := laidOpen(p)
		puts(t, "with spare room", p, want)
		if laidOpen(p) != was {
			t.Fatal("Put changed what it was handed")
		}
		b, _ := pack.Put(p)
		scribble(&p)
		if !bytes.Equal(b, want) {
			t.Fatal("Put's answer changed with what was handed in")
		}
	}
}

func TestP7_7ArgumentsStayAsTheyAre(t *testing.T) {
	r := rand.New(rand.NewSource(71))
	for range 500 {
		p := madePack(r)
		b, _ := modelPut(p)
		for _, b := range [][]byte{b, spoil(r, b)} {
			b = append(b, bytes.Repeat([]byte{0x5a}, 9)...)
			was := bytes.Clone(b)
			b = b[: len(b)-9 : len(b)]
			asModel(t, "with spare room", b)
			if pack.Sum(b) != modelSum(b) || !bytes.Equal(b[:cap(b)], was) {
				t.Fatal("Get or Sum changed what it was handed")
			}
			q, _, e := pack.Get(b)
			scribbleBytes(b)
			if e == api.OK && text(q) != text(mustGet(was[:len(was)-9])) {
				t.Fatal("Get's answer changed with what was handed in")
			}
		}
	}
}

func mustGet(b []byte) api.Pack {
	p, _, _ := modelGet(b)
	return p
}

func TestP7_6AnswersAreNewMemory(t *testing.T) {
	for _, p := range []api.Pack{{}, sample()} {
		want, _ := modelPut(p)
		a, _ := pack.Put(p)
		b, _ := pack.Put(p)
		scribbleBytes(a)
		if !bytes.Equal(b, want) {
			t.Error("two answers share memory")
		}
		puts(t, "behind an answer that was written into", p, want)
	}
}

func TestP7_7AnswersAreNewMemory(t *testing.T) {
	r := rand.New(rand.NewSource(72))
	for range 300 {
		want := madePack(r)
		b, _ := modelPut(want)
		p, _, _ := pack.Get(b)
		q, _, _ := pack.Get(b)
		apart(t, p, q)
		scribble(&p)
		if text(q) != text(want) {
			t.Fatal("two answers share memory")
		}
		gets(t, "behind an answer that was written into", b, want)
	}
}

// apart asks that no two lists of some packs share memory, spare room too.
func apart(t *testing.T, l ...api.Pack) {
	t.Helper()
	type span struct{ from, to uintptr }
	var spans []span
	for i := range l {
		eachList(reflect.ValueOf(&l[i]).Elem(), func(v reflect.Value) {
			if v.Cap() > 0 {
				spans = append(spans, span{v.Pointer(), v.Pointer() + uintptr(v.Cap())*v.Type().Elem().Size()})
			}
		})
	}
	sort.Slice(spans, func(i, j int) bool { return spans[i].from < spans[j].from })
	for i := 1; i < len(spans); i++ {
		if spans[i].from < spans[i-1].to {
			t.Fatal("two lists share memory")
		}
	}
}
