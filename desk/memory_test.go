package desk_test

import (
	"reflect"
	"slices"
	"testing"

	"levy/api"
	"levy/desk"
)

// DOC.md's third rule: what is handed in is neither changed nor kept, what is answered is new memory.

// lists calls do with each list that hangs on a value, spare room and all.
func lists(v reflect.Value, do func(l reflect.Value)) {
	switch v.Kind() {
	case reflect.Slice:
		for i := range v.Len() {
			lists(v.Index(i), do)
		}
		if v.Cap() > 0 {
			do(v.Slice(0, v.Cap()))
		}
	case reflect.Struct:
		for i := range v.NumField() {
			lists(v.Field(i), do)
		}
	}
}

// scribble writes over all lists, and over their spare room.
func scribble(x any) {
	lists(reflect.ValueOf(x), func(l reflect.Value) {
		for i := range l.Len() {
			l.Index(i).Set(reflect.Zero(l.Type().Elem()))
			switch e := l.Index(i); e.Kind() {
			case reflect.Int, reflect.Uint8:
				e.Set(reflect.ValueOf(0x5A).Convert(e.Type()))
			case reflect.String:
				e.SetString("scribble")
			}
		}
	})
}

// parted asks that no two lists share memory.
func parted(t *testing.T, what string, x any) {
	t.Helper()
	type span struct{ from, to uintptr }
	var seen []span
	lists(reflect.ValueOf(x), func(l reflect.Value) {
		s := span{l.Pointer(), l.Pointer() + uintptr(l.Cap())*l.Type().Elem().Size()}
		for _, o := range seen {
			if s.from < o.to && o.from < s.to {
				t.Fatalf("%s: two lists share memory", what)
			}
		}
		seen = append(seen, s)
	})
}

// roomy: a copy of a list with spare room, and the whole of it.
func roomy[T any](l []T, fill T) (part, whole []T) {
	whole = slices.Concat(l, slices.Repeat([]T{fill}, 5))
	return whole[:len(l)], whole
}

func TestRule3Replies(t *testing.T) {
	eachPair(t, 3, 60, 10, true, func(p *pair, d *director) {
		for range 150 {
			c := d.any()
			var list []int
			var pages []string
			c.List, list = roomy(c.List, 77)
			c.Pages, pages = roomy(c.Pages, "spare")
			oldList, oldPages := slices.Clone(list), slices.Clone(pages)
			r := p.do(c)
			if !slices.Equal(list, oldList) || !slices.Equal(pages, oldPages) {
				t.Fatalf("%+v: what was handed in has changed", c)
			}
			parted(t, "a reply", r)
			d.noted(api.Reply{Pages: slices.Clone(r.Pages)})
			scribble(r)
			scribble(c)
			files := p.desk.Files()
			parted(t, "files", files)
			scribble(files)
			p.alike("scribbled over")
		}
	})
}

func TestRule3Open(t *testing.T) {
	good := compiled(t, simple)
	w := benchOf(t, simple).all("set wage 1.00;fork a")
	b, whole := roomy(good, 9)
	files, all := roomy(w.Files(), api.File{Name: "spare"})
	files[0].Data, _ = roomy(files[0].Data, 9)
	oldBytes, oldFiles := slices.Clone(whole), slices.Clone(all)
	oldData := slices.Clone(files[0].Data[:cap(files[0].Data)])
	d := opened(t, b, files...)
	if !slices.Equal(whole, oldBytes) || !sameFiles(all, oldFiles) || !slices.Equal(files[0].Data[:cap(files[0].Data)], oldData) {
		t.Error("what was handed in has changed")
	}
	scribble(whole)
	scribble(all)
	other := &bench{t, packOf(t, good), d}
	other.is("wage", ask(0, 0), api.Reply{Val: cent(100)})
	other.is("names", cmd(api.CmdNames), api.Reply{Names: []string{"a", "main"}})
	other.all("set wage 2.00;reopen;add kid;audit;sheet")
	other.is("wage", ask(0, 0), api.Reply{Val: cent(200)})
}

func TestRule3Texts(t *testing.T) {
	one := compiled(t, simple)
	want := slices.Clone(one)
	scribble(one)
	if !slices.Equal(compiled(t, simple), want) {
		t.Error("Compile answers the same memory twice")
	}
	p := packOf(t, want)
	c, err := desk.Parse(p, "least tax by filing, wage")
	if err != nil {
		t.Fatal(err)
	}
	scribble(c)
	if c, _ := desk.Parse(p, "least tax by filing, wage"); !slices.Equal(c.List, []int{1, 0}) {
		t.Errorf("list %v", c.List)
	}
	if !slices.Equal(put(t, p), want) {
		t.Error("Parse changed the pack")
	}
	lines, whole := roomy([]string{"undo", "branches"}, "spare")
	desk.Play(simple, lines...)
	if !slices.Equal(whole, []string{"undo", "branches", "spare", "spare", "spare", "spare", "spare"}) {
		t.Errorf("Play changed its lines: %q", whole)
	}
}
