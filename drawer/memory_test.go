package drawer_test

import (
	"bytes"
	"slices"
	"testing"

	"levy/api"
	"levy/drawer"
)

// roomy: bytes with spare room behind them, in which something stands.
func roomy(s string) []byte { return []byte(s + "spare room")[:len(s)] }

// scribble writes into all of a list, spare room too, and behind it.
func scribble(b []byte) {
	all := b[:cap(b)]
	for i := range all {
		all[i] = 0xEE
	}
	_ = append(b, 0xDD, 0xDD)
}

// untouched asks that roomy bytes are as they were, with their spare room, and spoils them then.
func untouched(t *testing.T, what string, b []byte, s string) {
	t.Helper()
	if got := string(b[:len(s)+10]); got != s+"spare room" {
		t.Errorf("%s: %q", what, got)
	}
	scribble(b)
}

func TestArgumentsAreNotKept(t *testing.T) {
	files := append(make([]api.File, 0, 3), api.File{Name: "a", Data: roomy("abc"), Synced: 1}, api.File{Name: "b", Data: roomy("")})
	files[:3][2] = api.File{Name: "spare"}
	d := diskOf(t, files...)
	if files[0].Name != "a" || files[0].Synced != 1 || files[1].Name != "b" || files[:3][2].Name != "spare" {
		t.Error("the files are changed")
	}
	untouched(t, "NewDisk", files[0].Data, "abc")
	untouched(t, "NewDisk", files[1].Data, "")
	files[0], files[1] = api.File{}, api.File{}
	holds(t, "NewDisk", d, api.File{Name: "a", Data: []byte("abc"), Synced: 1}, api.File{Name: "b"})

	data := roomy("def")
	must(t, d.Append("a", data), d.Append("b", data), d.Append("c", data))
	untouched(t, "Append", data, "def")
	holds(t, "Append", d, api.File{Name: "a", Data: []byte("abcdef"), Synced: 1}, api.File{Name: "b", Data: []byte("def")}, api.File{Name: "c", Data: []byte("def")})
	keep := []int{1, 2, 99, -5}[:3]
	d.Restart(keep)
	if !slices.Equal(keep[:4], []int{1, 2, 99, -5}) {
		t.Errorf("keep is changed: %d", keep[:4])
	}
	holds(t, "Restart", d, sure("a", []byte("ab")), sure("b", []byte("de")), sure("c", []byte("def")))
}

func TestBodiesAreNotKept(t *testing.T) {
	d := diskOf(t)
	w := drawerOf(t, d, 7)
	summary, body := roomy("sum"), roomy("body")
	must(t, w.Fold(summary), w.Put(api.Record{Kind: 1, Body: body}))
	untouched(t, "Fold", summary, "sum")
	untouched(t, "Put", body, "body")
	opens(t, "behind scribbles", d, 7, found{summary: []byte("sum"), records: []api.Record{record(1, "body")}})
}

func TestAnswersAreNewMemory(t *testing.T) {
	want := []api.File{sure("log-00000001", logOf(7, "sum", record(1, "one"), record(2, ""), record(3, "three"))), sure("z", []byte("zz"))}
	d := diskOf(t, want...)
	a, b := d.Files(), d.Files()
	scribble(a[0].Data)
	if !bytes.Equal(a[1].Data, want[1].Data) {
		t.Error("two lists of one answer share memory")
	}
	scribble(a[1].Data)
	_ = append(a[:0], api.File{Name: "junk"})
	_ = append(a, api.File{Name: "junk"})
	if !sameFiles(b, want) {
		t.Error("an earlier answer of Files is touched")
	}
	x, _ := d.Read("z")
	y, _ := d.Read("z")
	scribble(x)
	if string(y) != "zz" {
		t.Error("another answer of Read is touched")
	}
	holds(t, "behind scribbles", d, want...)

	_, summary, records, _ := drawer.Open(d, 7)
	_, again, more, _ := drawer.Open(d, 7)
	told := []string{"sum", "one", "", "three"}
	lists := func(summary []byte, records []api.Record) [][]byte {
		return [][]byte{summary, records[0].Body, records[1].Body, records[2].Body}
	}
	l := lists(summary, records)
	for i := range l {
		scribble(l[i])
		for j, b := range l[i+1:] {
			if string(b) != told[i+1+j] {
				t.Errorf("list %d is touched by list %d: %q", i+1+j, i, b)
			}
		}
	}
	_ = append(records[:0], record(9, "junk"))
	_ = append(records, record(9, "junk"))
	for i, b := range lists(again, more) {
		if string(b) != told[i] {
			t.Errorf("another answer of Open is touched: %q", b)
		}
	}
	holds(t, "behind scribbles", d, want...)
}

// An answer stays as it is, whatever is done on the disk behind it.
func TestAnswersStay(t *testing.T) {
	d := diskOf(t, sure("a", []byte("abcdef")))
	files := d.Files()
	read, _ := d.Read("a")
	must(t, d.Trim("a", 2), d.Append("a", []byte("XYZ")), d.Append("a", text(100)))
	d.Restart(nil)
	must(t, d.Append("a", []byte("!!!!!!")), d.Remove("a"))
	if !sameFiles(files, []api.File{sure("a", []byte("abcdef"))}) || string(read) != "abcdef" {
		t.Errorf("%s, %q", brief(files), read)
	}
}

// Two disks of the same files, and a disk of another's files, go their own ways.
func TestDisksAreApart(t *testing.T) {
	files := []api.File{sure("a", roomy("abc"))}
	d, e := diskOf(t, files...), diskOf(t, files...)
	f := diskOf(t, d.Files()...)
	must(t, d.Append("a", []byte("d")), e.Append("a", []byte("e")), f.Trim("a", 1), f.Append("a", []byte("f")), d.Append("d", nil))
	d.Crash()
	holds(t, "the first", d, api.File{Name: "a", Data: []byte("abcd"), Synced: 3}, api.File{Name: "d"})
	holds(t, "the second", e, api.File{Name: "a", Data: []byte("abce"), Synced: 3})
	holds(t, "the third", f, api.File{Name: "a", Data: []byte("af"), Synced: 1})
}

// Of a disk that isn't, Open says that it is down.
func TestOpenOfNoDisk(t *testing.T) {
	opens(t, "no disk", nil, 7, found{errno: api.ErrDiskDown})
}
