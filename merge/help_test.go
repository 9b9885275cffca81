package merge_test

import (
	"fmt"
	"maps"
	"reflect"
	"slices"
	"testing"

	"levy/api"
	"levy/merge"
	"levy/trie"
)

// The values, by their kinds.
var (
	blank   = api.Value{}
	yes, no = val(api.Flag, 1), val(api.Flag, 0)
)

func val(kind int, n int64) api.Value { return api.Value{Kind: kind, Num: n} }
func cent(n int64) api.Value          { return val(api.Cents, n) }
func num(n int64) api.Value           { return val(api.Count, n) }

func of(o int, n int64, args ...api.Expr) api.Expr { return api.Expr{Op: o, Num: n, Args: args} }

// named: names that are unlike for unlike numbers below 676.
func named(lead string, n int) string {
	return lead + string([]byte{byte('a' + n/26), byte('a' + n%26)})
}

func input(name string, kind, group int) api.Line {
	return api.Line{Name: name, Input: true, Type: kind, Options: -1, Group: group}
}

// computed: a line of cents with its default.
func computed(name string, group int, body api.Expr) api.Line {
	return api.Line{Name: name, Type: api.Cents, Options: -1, Group: group, Clauses: []api.Clause{{Body: body}}}
}

func check(name string, group int) api.Check {
	return api.Check{Name: name, Group: group, When: of(api.OpFlag, 0), Text: name}
}

// example: the chapter's pack: cells: 0 wage; 1, 2 age; 3, 4 credit; 5 total; 6, 7 the flags.
func example() api.Pack {
	young := of(api.OpIf, 0, of(api.OpLt, 0, of(api.OpLine, 1), of(api.OpCount, 17)), of(api.OpCents, 200000), of(api.OpCents, 0))
	return api.Pack{
		Name: "kids", Year: 2024, Groups: []api.Group{{Name: "kid", Rows: 2}},
		Lines: []api.Line{input("wage", api.Cents, -1), input("age", api.Count, 0), computed("credit", 0, young), computed("total", -1, of(api.OpSum, 2))},
	}
}

// mixed: lines whose order is that of no group, a group without lines, and checks. Cells: 0 a (input of late); 1, 2, 3 b (input of early); 4 c (input); 5, 6, 7 d (computed, of early); 8 e (input of late); 9 f (computed); 10, 11, 12 g (input of early); 13 h (input); 14, 15, 16 the flags of early; 17, 18 the flags of bare; 19 the flag of late; 20 k (check); 21, 22, 23 l (check of early).
func mixed() api.Pack {
	return api.Pack{
		Name: "mixed", Year: 2024, Groups: []api.Group{{Name: "early", Rows: 3}, {Name: "bare", Rows: 2}, {Name: "late", Rows: 1}},
		Lines: []api.Line{
			input("a", api.Cents, 2), input("b", api.Cents, 0), input("c", api.Cents, -1), computed("d", 0, of(api.OpLine, 1)), input("e", api.Flag, 2),
			computed("f", -1, of(api.OpLine, 2)), input("g", api.Count, 0), input("h", api.Day, -1),
		},
		Checks: []api.Check{check("k", -1), check("l", 0)},
	}
}

// mixedOrder: the cells of mixed in the form's order, by the chapter's words.
var mixedOrder = []uint32{4, 13, 14, 1, 10, 15, 2, 11, 16, 3, 12, 17, 18, 19, 0, 8, 5, 6, 7, 9, 20, 21, 22, 23}

// greatest: 256 cells: four groups of eight rows, 26 columns, of which the last two are computed, and two checks of groups.
func greatest() api.Pack {
	p := api.Pack{Name: "great", Year: 2024}
	for i := range api.MaxGroups {
		p.Groups = append(p.Groups, api.Group{Name: named("g", i), Rows: api.MaxRows})
	}
	for i := range 24 {
		p.Lines = append(p.Lines, input(named("l", i), api.Cents, i%4))
	}
	p.Lines = append(p.Lines, computed("y", 2, of(api.OpLine, 2)), computed("z", 3, of(api.OpLine, 3)))
	p.Checks = []api.Check{check("one", 2), check("two", 3)}
	return p
}

// cells: what a map holds, by key.
type cells map[uint32]api.Value

func (c cells) with(key uint32, v api.Value) cells {
	c = maps.Clone(c)
	c[key] = v
	return c
}

func (c cells) without(key uint32) cells {
	c = maps.Clone(c)
	delete(c, key)
	return c
}

// mapOf makes the map of some cells, rising, so that no two share a node.
func mapOf(c cells) *trie.Map {
	m := trie.Empty()
	for _, key := range slices.Sorted(maps.Keys(c)) {
		m = m.Put(key, c[key])
	}
	return m
}

func cellsOf(m *trie.Map) cells { return cells(maps.Collect(m.All())) }

func holds(t *testing.T, what string, m *trie.Map, want cells) {
	t.Helper()
	if m == nil || m.Len() != len(want) || !maps.Equal(cellsOf(m), want) {
		t.Errorf("%s: %v, want %v", what, show(m), want)
	}
}

func show(m *trie.Map) string {
	if m == nil {
		return "no map"
	}
	return fmt.Sprint(cellsOf(m))
}

// side: what a conflict tells of a key at which some cells hold something, or nothing.
func side(key uint32, c cells) api.Change {
	v, ok := c[key]
	return api.Change{Id: key, Has: ok, Now: v}
}

// dispute: the conflict of a key.
func dispute(key uint32, base, ours, theirs cells) api.Conflict {
	return api.Conflict{Base: side(key, base), Ours: side(key, ours), Theirs: side(key, theirs)}
}

// merges asks for what Merge answers: what the merged map holds, and the keys of conflicts, whose sides are those of P15.5.
func merges(t *testing.T, what string, p api.Pack, base, ours, theirs, want cells, keys ...uint32) {
	t.Helper()
	m, c := merge.Merge(p, mapOf(base), mapOf(ours), mapOf(theirs))
	holds(t, what, m, want)
	var l []api.Conflict
	for _, key := range keys {
		l = append(l, dispute(key, base, ours, theirs))
	}
	if !slices.Equal(c, l) {
		t.Errorf("%s: conflicts %+v, want %+v", what, c, l)
	}
}

func changes(p api.Pack, a, b *trie.Map) []api.Change {
	return slices.Collect(merge.Changes(p, a, b))
}

func keysOf(l []api.Change) []uint32 {
	var keys []uint32
	for _, c := range l {
		keys = append(keys, c.Id)
	}
	return keys
}

// eachList calls do with every list of a value, those in its spare room aside, the inner ones first.
func eachList(v reflect.Value, do func(reflect.Value)) {
	switch v.Kind() {
	case reflect.Struct:
		for i := range v.NumField() {
			eachList(v.Field(i), do)
		}
	case reflect.Slice:
		for i := range v.Len() {
			eachList(v.Index(i), do)
		}
		do(v)
	}
}

// junk: a value of a type that no test puts there.
func junk(t reflect.Type) reflect.Value {
	v := reflect.New(t).Elem()
	switch t.Kind() {
	case reflect.Struct:
		for i := range t.NumField() {
			v.Field(i).Set(junk(t.Field(i).Type))
		}
	case reflect.Int, reflect.Int64:
		v.SetInt(-987654321)
	case reflect.Uint32:
		v.SetUint(987654321)
	case reflect.String:
		v.SetString("junk")
	case reflect.Bool:
		v.SetBool(true)
	}
	return v
}

// roomy gives every list of a thing spare room with something in it.
func roomy(thing any) {
	eachList(reflect.ValueOf(thing).Elem(), func(l reflect.Value) {
		n := l.Len()
		l.Set(reflect.Append(l, junk(l.Type().Elem()), junk(l.Type().Elem())).Slice(0, n))
	})
}

// laidOpen tells a thing with all spare room.
func laidOpen(thing any) string {
	v := reflect.ValueOf(thing).Elem()
	s := fmt.Sprintf("%+v", v.Interface())
	eachList(v, func(l reflect.Value) { s += fmt.Sprintf("%+v", l.Slice(0, l.Cap()).Interface()) })
	return s
}

// scribble writes junk into all that the lists of a thing have, spare room too.
func scribble(thing any) {
	eachList(reflect.ValueOf(thing).Elem(), func(l reflect.Value) {
		all := l.Slice(0, l.Cap())
		for i := range all.Len() {
			all.Index(i).Set(junk(l.Type().Elem()))
		}
	})
}
