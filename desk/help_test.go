package desk_test

import (
	"errors"
	"fmt"
	"math/rand"
	"reflect"
	"slices"
	"strings"
	"testing"

	"levy/api"
	"levy/desk"
	"levy/pack"
)

// simple: the text of layer 5's first example. Cells: 0 wage, 1 filing, 2 to 4 age, 5 to 7 credit, 8 tax, 9 to 11 the flags of kid, 12 the check rich.
const simple = `pack simple 2024
options status: single, joint
table rates: 0.00 10%, 11000.00 12.5%
group kid 3
input wage cents must
input filing status
input age count in kid
line credit cents in kid
  is if age < 17 then 2000.00 else 0.00
line tax cents
  is bracket(rates, wage) - sum(credit)
  at 2 when filing = status.joint and wage < 20000.00 is 0.00
check rich hard "too much"
  when wage > 1000000.00
`

// kinds: a text with inputs of all kinds, of no group and of two groups, and checks of both sorts. Cells: 0 to 4 c, n, f, d, o; 5 to 7 kc; 8 to 10 kf; 11, 12 ko; 13 sum; 14 born; 15 which; 16 to 18 kx; 19 bad; 20 to 22 the flags of kid; 23, 24 the flags of slip; 25 to 27 old; 28 soft.
const kindsText = `pack kinds 2025
options size: small, big, huge
options status: single, joint
group kid 3
group slip 2
input c cents must
input n count
input f flag
input d day must
input o size
input kc cents in kid
input kf flag in kid must
input ko status in slip
line sum cents
  is sum(kc) + either(c, 0.00)
  at 3 when f is -1.00
line born day
  is addmonths(d, n)
line which size
  is if any(kf) then size.huge else size.small
line kx cents in kid
  is if kf then kc else c
line bad cents
  is split(c, n, down)
check old hard in kid "too \"old\""
  when kf and kc > 100.00
check soft "so \\ so"
  when f
`

// The values, by their kinds.
var (
	blank   = api.Value{}
	yes, no = val(api.Flag, 1), val(api.Flag, 0)

	needed = val(api.Fault, api.Needed)
)

func val(kind int, n int64) api.Value { return api.Value{Kind: kind, Num: n} }
func cent(n int64) api.Value          { return val(api.Cents, n) }
func num(n int64) api.Value           { return val(api.Count, n) }
func date(n int64) api.Value          { return val(api.Day, n) }
func option(n int64) api.Value        { return val(api.Choice, n) }

// tally: how often things came about, so that a test by chance can't pass by missing them.
type tally map[string]int

func (c tally) atLeast(t *testing.T, n int, whats ...string) {
	t.Helper()
	for _, what := range whats {
		if c[what] < n {
			t.Errorf("%s: %d times", what, c[what])
		}
	}
}

func pick[T any](r *rand.Rand, l ...T) T { return l[r.Intn(len(l))] }

func compiled(t *testing.T, text string) []byte {
	t.Helper()
	b, err := desk.Compile(text)
	if err != nil || len(b) == 0 {
		t.Fatalf("Compile: %d bytes, %v", len(b), err)
	}
	return b
}

// put: a pack's bytes.
func put(t *testing.T, p api.Pack) []byte {
	t.Helper()
	b, e := pack.Put(p)
	if e != api.OK {
		t.Fatalf("pack.Put: error %d", int(e))
	}
	return b
}

func packOf(t *testing.T, b []byte) api.Pack {
	t.Helper()
	p, _, e := pack.Get(b)
	if e != api.OK {
		t.Fatalf("pack.Get: error %d", int(e))
	}
	return p
}

// opened: a desk that is up.
func opened(t *testing.T, b []byte, files ...api.File) *desk.Desk {
	t.Helper()
	d, e := desk.Open(b, files)
	if d == nil || e != api.OK || !d.Up() {
		t.Fatalf("Open: error %d", int(e))
	}
	return d
}

// at: a desk of a rule text over an empty disk.
func at(t *testing.T, text string) *desk.Desk {
	t.Helper()
	return opened(t, compiled(t, text))
}

// bench: a desk that is told lines of a script.
type bench struct {
	t *testing.T
	p api.Pack
	*desk.Desk
}

func benchOf(t *testing.T, text string) *bench {
	t.Helper()
	b := compiled(t, text)
	return &bench{t, packOf(t, b), opened(t, b)}
}

// tell does lines, with ';' between, and answers the last one's reply.
func (b *bench) tell(lines string) api.Reply {
	b.t.Helper()
	var r api.Reply
	for _, line := range strings.Split(lines, ";") {
		c, err := desk.Parse(b.p, line)
		if err != nil {
			b.t.Fatalf("%q: %v", line, err)
		}
		r = b.Do(c)
	}
	return r
}

// all does lines, each of which must succeed.
func (b *bench) all(lines string) *bench {
	b.t.Helper()
	for _, line := range strings.Split(lines, ";") {
		if r := b.tell(line); r.Err != api.OK {
			b.t.Fatalf("%q: error %d", line, int(r.Err))
		}
	}
	return b
}

// is asks for the whole reply of a command.
func (b *bench) is(what string, c api.Cmd, want api.Reply) {
	b.t.Helper()
	if got := b.Do(c); !sameReply(got, want) {
		b.t.Errorf("%s: %s, want %s", what, brief(got), brief(want))
	}
}

// errs asks for a command's error, and that all else is zero.
func (b *bench) errs(what string, c api.Cmd, want api.Errno) {
	b.t.Helper()
	b.is(what, c, api.Reply{Err: want})
}

// sameReply holds replies against each other: nil and empty lists are the same, a height that is no number is like itself.
func sameReply(a, b api.Reply) bool { return same(reflect.ValueOf(a), reflect.ValueOf(b)) }

func sameOf(a, b any) bool { return same(reflect.ValueOf(a), reflect.ValueOf(b)) }

func same(a, b reflect.Value) bool {
	switch a.Kind() {
	case reflect.Slice:
		if a.Len() != b.Len() {
			return false
		}
		for i := range a.Len() {
			if !same(a.Index(i), b.Index(i)) {
				return false
			}
		}
		return true
	case reflect.Struct:
		for i := range a.NumField() {
			if !same(a.Field(i), b.Field(i)) {
				return false
			}
		}
		return true
	case reflect.Float32:
		return a.Float() == b.Float() || a.Float() != a.Float() && b.Float() != b.Float()
	}
	return a.Equal(b)
}

// brief tells the fields of a reply that aren't zero.
func brief(r api.Reply) string {
	s := fmt.Sprintf("error %d", int(r.Err))
	v := reflect.ValueOf(r)
	for i := 1; i < v.NumField(); i++ {
		f := v.Field(i)
		if !f.IsZero() && !(f.Kind() == reflect.Slice && f.Len() == 0) {
			s += fmt.Sprintf(", %s %.600v", v.Type().Field(i).Name, fmt.Sprintf("%v", f.Interface()))
		}
	}
	return s
}

// errnoOf tells the number of an error, 0 of none.
func errnoOf(err error) api.Errno {
	var e api.Errno
	errors.As(err, &e)
	return e
}

func sameFiles(a, b []api.File) bool {
	return slices.EqualFunc(a, b, func(a, b api.File) bool {
		return a.Name == b.Name && a.Synced == b.Synced && slices.Equal(a.Data, b.Data)
	})
}

// sure: a file all of whose bytes are.
func sure(name string, data []byte) api.File {
	return api.File{Name: name, Data: data, Synced: len(data)}
}

// The commands, in short.
func cmd(kind int) api.Cmd { return api.Cmd{Kind: kind} }
func setTo(line, row int, v api.Value) api.Cmd {
	return api.Cmd{Kind: api.CmdSet, Line: line, Row: row, Val: v}
}
func ask(line, row int) api.Cmd           { return api.Cmd{Kind: api.CmdQuery, Line: line, Row: row} }
func named(kind int, name string) api.Cmd { return api.Cmd{Kind: kind, Name: name} }
func group(kind, line, row int) api.Cmd   { return api.Cmd{Kind: kind, Line: line, Row: row} }
func counted(kind, n int) api.Cmd         { return api.Cmd{Kind: kind, N: n} }
func reopening(keep ...int) api.Cmd       { return api.Cmd{Kind: api.CmdReopen, List: keep} }
func failing(after, calls int) api.Cmd    { return api.Cmd{Kind: api.CmdFail, Row: after, N: calls} }
func importing(pages []string) api.Cmd    { return api.Cmd{Kind: api.CmdImport, Pages: pages} }

func newRand(seed int64) *rand.Rand { return rand.New(rand.NewSource(seed)) }
