package drawer_test

import (
	"bytes"
	"fmt"
	"math/rand"
	"slices"
	"testing"

	"levy/api"
	"levy/drawer"
)

// tally: how often things came about, so that a test by chance can't pass by missing them.
type tally map[string]int

func (c tally) atLeast(t *testing.T, n int, whats ...string) {
	t.Helper()
	for _, what := range whats {
		if c[what] < n {
			t.Errorf("%s: %d times", what, c[what])
		}
	}
}

func pick[T any](r *rand.Rand, l ...T) T { return l[r.Intn(len(l))] }

// text: so many bytes, none like its neighbours.
func text(n int) []byte {
	b := make([]byte, n)
	for i := range b {
		b[i] = byte('a' + i%23)
	}
	return b
}

func errnoIs(t *testing.T, what string, got, want api.Errno) {
	t.Helper()
	if got != want {
		t.Errorf("%s: error %d, want %d", what, int(got), int(want))
	}
}

// must asks that all went well.
func must(t *testing.T, l ...api.Errno) {
	t.Helper()
	for i, e := range l {
		if e != api.OK {
			t.Fatalf("call %d: error %d", i, int(e))
		}
	}
}

func sure(name string, data []byte) api.File {
	return api.File{Name: name, Data: data, Synced: len(data)}
}

func record(kind byte, body string) api.Record { return api.Record{Kind: kind, Body: []byte(body)} }

func diskOf(t *testing.T, files ...api.File) *drawer.Disk {
	t.Helper()
	d, e := drawer.NewDisk(files)
	if e != api.OK || d == nil {
		t.Fatalf("NewDisk: error %d", int(e))
	}
	return d
}

func drawerOf(t *testing.T, d *drawer.Disk, sum uint32) *drawer.Drawer {
	t.Helper()
	w, _, _, e := drawer.Open(d, sum)
	if e != api.OK || w == nil {
		t.Fatalf("Open: error %d", int(e))
	}
	return w
}

// sameFiles tells whether lists say the same files, in the same order.
func sameFiles(a, b []api.File) bool {
	return slices.EqualFunc(a, b, func(a, b api.File) bool {
		return a.Name == b.Name && a.Synced == b.Synced && bytes.Equal(a.Data, b.Data)
	})
}

// brief tells files without their long contents.
func brief(files []api.File) string {
	s := ""
	for _, f := range files {
		s += fmt.Sprintf("%s: %d bytes %.60q, %d sure; ", f.Name, len(f.Data), f.Data, f.Synced)
	}
	return s
}

// holds asks for what stands on a disk.
func holds(t *testing.T, what string, d *drawer.Disk, want ...api.File) {
	t.Helper()
	if got := d.Files(); !sameFiles(got, want) {
		t.Errorf("%s: %s, want %s", what, brief(got), brief(want))
	}
}

func sameRecords(a, b []api.Record) bool {
	return slices.EqualFunc(a, b, func(a, b api.Record) bool { return a.Kind == b.Kind && bytes.Equal(a.Body, b.Body) })
}

// opens asks for what Open tells, and for what Len tells of its drawer; nil, if an error is wanted.
func opens(t *testing.T, what string, d *drawer.Disk, sum uint32, want found) *drawer.Drawer {
	t.Helper()
	w, summary, records, e := drawer.Open(d, sum)
	if e != want.errno || !bytes.Equal(summary, want.summary) || !sameRecords(records, want.records) {
		t.Errorf("%s: summary %.60q, %d records, error %d; want %.60q, %d, %d", what, summary, len(records), int(e), want.summary, len(want.records), int(want.errno))
	}
	if (w == nil) != (e != api.OK) {
		t.Errorf("%s: a drawer (%t) beside error %d", what, w != nil, int(e))
	}
	if w != nil && w.Len() != len(want.records) {
		t.Errorf("%s: Len %d, want %d", what, w.Len(), len(want.records))
	}
	return w
}

// logOf: a journal's bytes: the pieces of a summary and records.
func logOf(sum uint32, summary string, records ...api.Record) []byte {
	b := pieceOf(0, sum, 0, []byte(summary))
	for i, r := range records {
		b = append(b, pieceOf(uint32(i+1), sum, r.Kind, r.Body)...)
	}
	return b
}

// pair: a disk and the model of it, told the same.
type pair struct {
	disk  *drawer.Disk
	model *model
}

// newPair asks whether both take these files; nil, if neither does.
func newPair(t *testing.T, files ...api.File) *pair {
	t.Helper()
	m := newModel(files)
	d, e := drawer.NewDisk(files)
	if (m == nil) != (e != api.OK) || (d == nil) != (e != api.OK) || e != api.OK && e != 195 {
		t.Fatalf("NewDisk of %s: a disk: %t, error %d; want one: %t", brief(files), d != nil, int(e), m != nil)
	}
	if m == nil {
		return nil
	}
	p := &pair{d, m}
	p.alike(t, "NewDisk")
	return p
}

func (p *pair) alike(t *testing.T, what string) {
	t.Helper()
	if got, want := p.disk.Files(), p.model.told(); !sameFiles(got, want) {
		t.Fatalf("%s: %s, want %s", what, brief(got), brief(want))
	}
}

// do does a call on both, and asks for the same answer and the same files.
func (p *pair) do(t *testing.T, c call) api.Errno {
	t.Helper()
	var told []byte
	var e api.Errno
	switch c.what {
	case "Append":
		e = p.disk.Append(c.name, c.data)
	case "Sync":
		e = p.disk.Sync(c.name)
	case "Trim":
		e = p.disk.Trim(c.name, c.size)
	case "Remove":
		e = p.disk.Remove(c.name)
	case "Read":
		told, e = p.disk.Read(c.name)
	}
	want, errno := p.model.do(c)
	if e != errno || !bytes.Equal(told, want) {
		t.Fatalf("%s: %.60q, error %d, want %.60q, %d", c, told, int(e), want, int(errno))
	}
	p.alike(t, c.String())
	return e
}

func (p *pair) arm(units int) {
	p.disk.Arm(units)
	p.model.setArm(units)
}

func (p *pair) fail(after, calls int) {
	p.disk.Fail(after, calls)
	p.model.setFail(after, calls)
}

func (p *pair) crash(t *testing.T) {
	t.Helper()
	p.disk.Crash()
	p.model.crash()
	p.alike(t, "Crash")
}

func (p *pair) restart(t *testing.T, keep ...int) {
	t.Helper()
	p.disk.Restart(keep)
	p.model.restart(keep)
	p.alike(t, fmt.Sprint("Restart ", keep))
}

// drawers: a drawer and the model of it.
type drawers struct {
	*pair
	drawer *drawer.Drawer
	model  *modelDrawer
}

// open opens both, and asks for the same; nil, if they answer an error.
func (p *pair) open(t *testing.T, sum uint32) (*drawers, api.Errno) {
	t.Helper()
	m, want := p.model.open(sum)
	w := opens(t, "Open", p.disk, sum, want)
	p.alike(t, "Open")
	if t.Failed() {
		t.FailNow()
	}
	if w == nil {
		return nil, want.errno
	}
	return &drawers{p, w, m}, api.OK
}

// same asks for one answer of both, the same Len, and the same files.
func (w *drawers) same(t *testing.T, what string, got, want api.Errno) api.Errno {
	t.Helper()
	if got != want || w.drawer.Len() != w.model.records {
		t.Fatalf("%s: error %d, Len %d, want %d, %d", what, int(got), w.drawer.Len(), int(want), w.model.records)
	}
	w.alike(t, what)
	return got
}

func (w *drawers) put(t *testing.T, r api.Record) api.Errno {
	t.Helper()
	return w.same(t, "Put", w.drawer.Put(r), w.model.put(r))
}

func (w *drawers) fold(t *testing.T, summary []byte) api.Errno {
	t.Helper()
	return w.same(t, "Fold", w.drawer.Fold(summary), w.model.fold(summary))
}
