package drawer_test

import (
	"bytes"
	"fmt"
	"math/rand"
	"slices"
	"testing"

	"levy/api"
	"levy/drawer"
	"levy/pack"
)

func TestExamples(t *testing.T) {
	d := diskOf(t)
	w := opens(t, "an empty disk", d, 7, found{})
	first := closed([]byte{0x52, 0, 0, 0, 0, 7, 0, 0, 0, 0, 0, 0, 0, 0})
	holds(t, "an empty summary", d, sure("log-00000001", first))
	must(t, w.Put(record(5, "a")))
	second := closed([]byte{0x52, 1, 0, 0, 0, 7, 0, 0, 0, 1, 0, 0, 0, 5, 0x61})
	holds(t, "a record", d, sure("log-00000001", append(first, second...)))
	w = opens(t, "again", d, 7, found{records: []api.Record{record(5, "a")}})

	d.Fail(1, 1)
	errnoIs(t, "the Sync fails", w.Put(record(6, "b")), api.ErrDiskIO)
	errnoIs(t, "Put", w.Put(record(7, "")), api.ErrDrawerStuck)
	errnoIs(t, "Fold", w.Fold(nil), api.ErrDrawerStuck)
	other := diskOf(t, d.Files()...)
	d.Restart(nil)
	w = opens(t, "gone", d, 7, found{records: []api.Record{record(5, "a")}})
	other.Restart([]int{100})
	opens(t, "there", other, 7, found{records: []api.Record{record(5, "a"), record(6, "b")}})

	whole := d.Files()[0].Data
	d.Arm(3)
	errnoIs(t, "a Fold that tears", w.Fold([]byte("x")), api.ErrDiskDown)
	holds(t, "three bytes", d, sure("log-00000001", whole), api.File{Name: "log-00000002", Data: []byte{0x52, 0, 0}})
	d.Restart([]int{100})
	opens(t, "the first one", d, 7, found{records: []api.Record{record(5, "a")}})
	holds(t, "the other is removed", d, sure("log-00000001", whole))
	opens(t, "another sum", d, 8, found{errno: api.ErrDrawerOther})
}

// The bytes of pieces, of any number, sum, kind and body.
func TestP19_5Pieces(t *testing.T) {
	for _, sum := range []uint32{0, 1, 7, 0x80, 0x01020304, 0xFFFFFFFF, 0x52525252} {
		d := diskOf(t)
		w := drawerOf(t, d, sum)
		want := pieceOf(0, sum, 0, nil)
		holds(t, "the summary", d, sure("log-00000001", want))
		for n, kind := range []byte{0, 1, 0x52, 0x7F, 0x80, 0xFF} {
			body := text(n * 70)
			must(t, w.Put(api.Record{Kind: kind, Body: body}))
			want = append(want, pieceOf(uint32(n+1), sum, kind, body)...)
			holds(t, "a record more", d, sure("log-00000001", want))
		}
		must(t, w.Fold(text(300)))
		want = pieceOf(0, sum, 0, text(300))
		holds(t, "folded", d, sure("log-00000002", want))
		must(t, w.Put(record(9, "")))
		holds(t, "numbers begin again", d, sure("log-00000002", append(want, pieceOf(1, sum, 9, nil)...)))
	}
	b := pieceOf(0, 7, 0, nil)
	if s := pack.Sum(b[:14]); !bytes.Equal(b[14:], []byte{byte(s), byte(s >> 8), byte(s >> 16), byte(s >> 24)}) {
		t.Error("the model's sum isn't pack.Sum")
	}
}

// Numbers of two and three bytes.
func TestP19_5ManyRecords(t *testing.T) {
	d := diskOf(t)
	w := drawerOf(t, d, 3)
	var want []api.Record
	for n := range 66000 {
		r := api.Record{Kind: byte(n), Body: text(n % 3)}
		must(t, w.Put(r))
		want = append(want, r)
	}
	b, _ := d.Read("log-00000001")
	if !bytes.Equal(b, logOf(3, "", want...)) {
		t.Error("the bytes of 66000 records")
	}
	w = opens(t, "66000 records", d, 3, found{records: want})
	must(t, w.Put(record(1, "last")))
	opens(t, "66001 records", d, 3, found{records: append(want, record(1, "last"))})
}

// logNames: names that are those of a journal's file, and names that are near.
var (
	logNames = []string{"log-00000001", "log-00000002", "log-00000010", "log-12345678", "log-90000000", "log-99999999"}
	nearly   = []string{"log-00000000", "log-0000001", "log-", "log--0000001", "log-0000000a", "log-1", "log", "lof-00000001", "og-00000001", "log00000001", "l0g-00000001", "log-000000-1", "-log00000001", "log-0000-001", "00000001"}
)

func TestP19_5Names(t *testing.T) {
	for _, name := range logNames {
		d := diskOf(t, sure(name, logOf(7, "it", record(1, "x"))))
		opens(t, name, d, 7, found{summary: []byte("it"), records: []api.Record{record(1, "x")}})
		holds(t, name, d, sure(name, logOf(7, "it", record(1, "x"))))
	}
	for _, name := range nearly {
		mine := api.File{Name: name, Data: logOf(9, "it"), Synced: 3}
		d := diskOf(t, mine)
		opens(t, name, d, 7, found{})
		got := d.Files()
		if len(got) != 2 || !slices.ContainsFunc(got, func(f api.File) bool { return sameFiles([]api.File{f}, []api.File{mine}) }) {
			t.Errorf("%s: %s", name, brief(got))
		}
	}
	want := []api.File{sure("log-00000100", pieceOf(0, 7, 0, nil))}
	d := diskOf(t, sure("log-00000098", pieceOf(0, 7, 0, nil)))
	w := drawerOf(t, d, 7)
	must(t, w.Fold(nil), w.Fold(nil))
	holds(t, "98, 99, 100", d, want...)
}

// spoilt: bytes by which a summary isn't whole at the beginning.
func spoilt() map[string][]byte {
	l := map[string][]byte{
		"nothing": nil, "a mark": {0x52}, "a record": pieceOf(1, 7, 0, nil), "another mark": closed(append([]byte{0x53}, pieceOf(0, 7, 0, nil)[1:14]...)),
		"a kind": pieceOf(0, 7, 1, nil), "a kind of 255": pieceOf(0, 7, 255, []byte("x")), "a body above the bound": pieceOf(0, 7, 0, text(api.MaxBody+1)),
		"a byte ahead": append([]byte{0}, logOf(7, "x")...), "another number": pieceOf(1<<24, 7, 0, nil), "no sum": pieceOf(0, 7, 0, nil)[:14],
		"a length of the most": closed(append(append([]byte{0x52, 0, 0, 0, 0, 7, 0, 0, 0}, 0xFF, 0xFF, 0xFF, 0xFF), 0)),
		"a length below 0":     closed(append(append([]byte{0x52, 0, 0, 0, 0, 7, 0, 0, 0}, 0, 0, 0, 0x80), 0)),
		"a length too great":   closed(append(append([]byte{0x52, 0, 0, 0, 0, 7, 0, 0, 0}, 1, 0, 0, 0), 0)),
		"the sum the other way round": func() []byte {
			b := pieceOf(0, 7, 0, []byte("x"))
			slices.Reverse(b[len(b)-4:])
			return b
		}(),
	}
	whole := logOf(7, "sum", record(1, "x"))[:21]
	for n := range whole {
		l[fmt.Sprint("cut at ", n)] = whole[:n]
		for bit := range 8 {
			b := bytes.Clone(whole)
			b[n] ^= 1 << bit
			l[fmt.Sprintf("bit %d of byte %d", bit, n)] = b
		}
	}
	return l
}

func TestP19_6CanBeRead(t *testing.T) {
	for what, b := range spoilt() {
		d := diskOf(t, sure("log-00000005", b))
		opens(t, what, d, 7, found{})
		holds(t, what, d, sure("log-00000001", pieceOf(0, 7, 0, nil)))
		older := logOf(7, "old", record(1, "x"))
		d = diskOf(t, sure("log-00000005", b), sure("log-00000004", older), sure("log-00000003", logOf(7, "older")))
		opens(t, what+", and an older one", d, 7, found{summary: []byte("old"), records: []api.Record{record(1, "x")}})
		holds(t, what+", and an older one", d, sure("log-00000004", older))
	}
	for what, b := range map[string][]byte{"the longest body": pieceOf(0, 7, 0, text(api.MaxBody)), "bytes behind": append(pieceOf(0, 7, 0, text(api.MaxBody)), "!!"...)} {
		d := diskOf(t, sure("log-00000005", b), sure("log-00000004", logOf(7, "old")))
		opens(t, what, d, 7, found{summary: text(api.MaxBody)})
		holds(t, what, d, sure("log-00000005", pieceOf(0, 7, 0, text(api.MaxBody))))
	}
}

// The greatest generation counts, whatever the others hold; its sum alone is asked for.
func TestP19_7Newest(t *testing.T) {
	for _, sum := range []uint32{0, 7, 0xFFFFFFFF} {
		files := []api.File{sure("log-00000002", logOf(sum, "two")), sure("log-00000009", logOf(sum+1, "nine")), sure("log-00000010", logOf(sum, "ten", record(3, "")))}
		d := diskOf(t, files...)
		opens(t, "the greatest", d, sum, found{summary: []byte("ten"), records: []api.Record{record(3, "")}})
		holds(t, "the greatest", d, files[2])
		files = append(files, api.File{Name: "log-00000011", Data: append(logOf(sum+1, "eleven", record(1, "x")), "!!"...), Synced: 2})
		d = diskOf(t, files...)
		opens(t, "of another pack", d, sum, found{errno: api.ErrDrawerOther})
		holds(t, "nothing is changed", d, files...)
	}
	for bit := range 32 {
		d := diskOf(t, sure("log-00000001", logOf(7^1<<bit, "x")))
		opens(t, "a bit", d, 7, found{errno: api.ErrDrawerOther})
	}
}

// tails: what may stand behind two whole records, none of it the third.
func tails() map[string][]byte {
	l := map[string][]byte{
		"nothing": nil, "a byte": {0}, "a mark": {0x52}, "the second again": pieceOf(2, 7, 2, nil), "the fourth": pieceOf(4, 7, 4, nil), "a summary": pieceOf(0, 7, 0, nil),
		"another sum": pieceOf(3, 8, 3, []byte("x")), "another sum, and the fourth": append(pieceOf(3, 8, 3, nil), pieceOf(4, 7, 4, nil)...), "a body above the bound": pieceOf(3, 7, 3, text(api.MaxBody+1)),
		"the first again": pieceOf(1, 7, 1, []byte("abc")), "junk, and the third": append([]byte("!"), pieceOf(3, 7, 3, nil)...), "another mark": closed(append([]byte{0x51}, pieceOf(3, 7, 3, nil)[1:14]...)),
		"number 259": pieceOf(259, 7, 3, nil), "the number the other way round": pieceOf(3<<24, 7, 3, nil),
	}
	third := pieceOf(3, 7, 3, []byte("third"))
	for n := range third {
		l[fmt.Sprint("the third, cut at ", n)] = third[:n]
		for bit := range 8 {
			b := bytes.Clone(third)
			b[n] ^= 1 << bit
			l[fmt.Sprintf("the third, bit %d of byte %d", bit, n)] = append(b, pieceOf(4, 7, 4, nil)...)
		}
	}
	return l
}

func TestP19_7Tails(t *testing.T) {
	two := []api.Record{record(1, "abc"), record(2, "")}
	whole := logOf(7, "sum", two...)
	for what, tail := range tails() {
		for _, synced := range []int{0, 1, len(whole) - 1, len(whole), len(whole) + len(tail)} {
			d := diskOf(t, api.File{Name: "log-00000005", Data: append(bytes.Clone(whole), tail...), Synced: synced})
			w := opens(t, what, d, 7, found{summary: []byte("sum"), records: two})
			holds(t, what, d, sure("log-00000005", whole))
			must(t, w.Put(record(9, "next")))
			holds(t, what+", and a record", d, sure("log-00000005", logOf(7, "sum", two[0], two[1], record(9, "next"))))
		}
	}
	longest := api.Record{Kind: 3, Body: text(api.MaxBody)}
	d := diskOf(t, sure("log-00000005", append(logOf(7, "sum", two[0], two[1], longest), 0x52)))
	opens(t, "the longest record", d, 7, found{summary: []byte("sum"), records: []api.Record{two[0], two[1], longest}})
	d = diskOf(t, sure("log-00000005", logOf(7, "sum", record(0, "none"), record(255, "most"))))
	opens(t, "records of any kind", d, 7, found{summary: []byte("sum"), records: []api.Record{record(0, "none"), record(255, "most")}})
}

func TestP19_7Down(t *testing.T) {
	for _, files := range [][]api.File{nil, {sure("log-00000001", logOf(7, "x"))}, {sure("log-00000001", logOf(8, "x"))}, {{Name: "log-00000001", Data: []byte("!!")}}} {
		d := diskOf(t, files...)
		d.Crash()
		opens(t, "down", d, 7, found{errno: api.ErrDiskDown})
		holds(t, "down", d, files...)
	}
}

// messy: a disk on which Open has all to do: to cut, to make sure, to remove; beside files of other names.
func messy() []api.File {
	return []api.File{
		{Name: "a", Data: []byte("mine"), Synced: 2}, sure("log-00000000", logOf(9, "zero")), sure("log-00000003", logOf(9, "older")),
		{Name: "log-00000004", Data: append(logOf(7, "it", record(1, "x"), record(2, "y")), "!!"...), Synced: 30}, {Name: "log-00000006", Data: []byte("R")}, {Name: "log-00000007"}, {Name: "z", Data: []byte("mine"), Synced: 3},
	}
}

// The calls that Open makes, in their order: a rig at each of them, and the files as they are then.
func TestP19_7Steps(t *testing.T) {
	l := messy()
	whole := logOf(7, "it", record(1, "x"), record(2, "y"))
	l[3] = api.File{Name: "log-00000004", Data: whole, Synced: 30}
	trimmed := slices.Clone(l)
	l[3].Synced = len(whole)
	synced := slices.Clone(l)
	steps := [][]api.File{messy(), trimmed, synced, slices.Delete(slices.Clone(l), 2, 3), {l[0], l[1], l[3], l[5], l[6]}, {l[0], l[1], l[3], l[6]}}
	told := found{summary: []byte("it"), records: []api.Record{record(1, "x"), record(2, "y")}}
	stepwise(t, messy(), steps, told)

	none := []api.File{{Name: "a", Data: []byte("mine"), Synced: 2}, {Name: "log-00000001", Data: []byte("R")}, {Name: "log-00000002", Data: logOf(7, "x")[:9]}}
	begun := pieceOf(0, 7, 0, nil)
	stepwise(t, none, [][]api.File{none, {none[0], none[2]}, {none[0]}, {none[0], {Name: "log-00000001", Data: begun}}, {none[0], sure("log-00000001", begun)}}, found{})
	stepwise(t, nil, [][]api.File{{}, {{Name: "log-00000001", Data: begun}}, {sure("log-00000001", begun)}}, found{})
	tidy := []api.File{sure("a", nil), sure("log-00000001", begun)}
	stepwise(t, tidy, [][]api.File{tidy}, found{})
	unsure := []api.File{{Name: "log-00000001", Data: begun, Synced: 17}}
	stepwise(t, unsure, [][]api.File{unsure, {sure("log-00000001", begun)}}, found{})
	torn := []api.File{sure("log-00000001", append(bytes.Clone(begun), 1))}
	stepwise(t, torn, [][]api.File{torn, {sure("log-00000001", begun)}}, found{})
}

// stepwise lets the call of each number fail, and asks for what stands on the disk then; behind the last step there is no call more.
func stepwise(t *testing.T, files []api.File, steps [][]api.File, told found) {
	t.Helper()
	last := len(steps) - 1
	for n, want := range steps[:last] {
		d := diskOf(t, files...)
		d.Fail(n, 1)
		opens(t, fmt.Sprint("failing call ", n), d, 7, found{errno: api.ErrDiskIO})
		holds(t, fmt.Sprint("failing call ", n), d, want...)
		opens(t, "again", d, 7, told)
		holds(t, "again", d, steps[last]...)
	}
	d := diskOf(t, files...)
	d.Fail(last, 1)
	opens(t, "all calls", d, 7, told)
	holds(t, "all calls", d, steps[last]...)
	errnoIs(t, "no call more", d.Append("other", nil), api.ErrDiskIO)
}

func TestP19_7NoRoom(t *testing.T) {
	d := diskOf(t, many(40)...)
	opens(t, "40 files", d, 7, found{errno: api.ErrDiskFull})
	holds(t, "40 files", d, many(40)...)
	d = diskOf(t, append(many(39), sure("log-00000003", []byte("!")))...)
	opens(t, "40 files, one of them a spoilt journal", d, 7, found{})
	d = diskOf(t, append(many(39), sure("log-00000003", logOf(7, "x")))...)
	opens(t, "40 files, one of them the journal", d, 7, found{summary: []byte("x")})
}

// A drawer that is opened again tells what was there; the one ahead of it has nothing of it.
func TestP19_7Again(t *testing.T) {
	p := newPair(t, messy()...)
	w, _ := p.open(t, 7)
	must(t, w.put(t, record(3, "z")))
	again, _ := p.open(t, 7)
	must(t, again.fold(t, []byte("new")), again.put(t, record(4, "")))
	last, _ := p.open(t, 7)
	if last.drawer.Len() != 1 || w.drawer.Len() != 3 {
		t.Errorf("Len %d and %d", last.drawer.Len(), w.drawer.Len())
	}
	_, e := p.open(t, 6)
	errnoIs(t, "another sum", e, api.ErrDrawerOther)
}

func TestP19_8Errors(t *testing.T) {
	long := api.Record{Kind: 1, Body: text(api.MaxBody + 1)}
	d := diskOf(t)
	w := drawerOf(t, d, 7)
	errnoIs(t, "too long", w.Put(long), api.ErrDrawerLong)
	holds(t, "nothing is done", d, sure("log-00000001", pieceOf(0, 7, 0, nil)))
	longest := api.Record{Kind: 1, Body: text(api.MaxBody)}
	errnoIs(t, "it isn't stuck, and takes the longest", w.Put(longest), api.OK)
	opens(t, "the longest", d, 7, found{records: []api.Record{longest}})
	d.Crash()
	errnoIs(t, "too long, down", w.Put(long), api.ErrDrawerLong)
	errnoIs(t, "down", w.Put(record(1, "")), api.ErrDiskDown)
	errnoIs(t, "stuck, too long", w.Put(long), api.ErrDrawerStuck)
	d.Restart(nil)
	errnoIs(t, "stuck for good", w.Put(record(1, "")), api.ErrDrawerStuck)
	errnoIs(t, "Fold too", w.Fold(nil), api.ErrDrawerStuck)
	if w.Len() != 1 {
		t.Errorf("Len %d", w.Len())
	}
}

// Each call of Put fails, or the machine falls in it: what is done stays done.
func TestP19_8Steps(t *testing.T) {
	ahead := logOf(7, "", record(1, "a"))
	laid := logOf(7, "", record(1, "a"), record(2, "bc"))
	for calls, want := range []api.File{sure("log-00000001", ahead), {Name: "log-00000001", Data: laid, Synced: len(ahead)}} {
		d := diskOf(t, sure("log-00000001", ahead))
		w := drawerOf(t, d, 7)
		d.Fail(calls, 1)
		errnoIs(t, "it fails", w.Put(record(2, "bc")), api.ErrDiskIO)
		holds(t, fmt.Sprint("failing call ", calls), d, want)
		stuck(t, d, w, 1)
	}
	for units := range 22 {
		d := diskOf(t, sure("log-00000001", ahead))
		w := drawerOf(t, d, 7)
		d.Arm(units)
		errnoIs(t, "it falls", w.Put(record(2, "bc")), api.ErrDiskDown)
		holds(t, fmt.Sprint("Arm ", units), d, api.File{Name: "log-00000001", Data: laid[:min(len(ahead)+units, len(laid))], Synced: len(ahead)})
		d.Restart([]int{99})
		stuck(t, d, w, 1)
	}
}

// stuck asks that a drawer takes nothing more, and does nothing to its disk.
func stuck(t *testing.T, d *drawer.Disk, w *drawer.Drawer, records int) {
	t.Helper()
	ahead := d.Files()
	for range 2 {
		errnoIs(t, "Put", w.Put(record(1, "")), api.ErrDrawerStuck)
		errnoIs(t, "Fold", w.Fold(nil), api.ErrDrawerStuck)
	}
	holds(t, "stuck", d, ahead...)
	if w.Len() != records {
		t.Errorf("Len of one that is stuck: %d, want %d", w.Len(), records)
	}
}

func TestP19_8Full(t *testing.T) {
	room := api.MaxFile - 18 - 18 - api.MaxBody - 18
	for _, more := range []int{0, 1} {
		d := diskOf(t)
		w := drawerOf(t, d, 7)
		must(t, w.Put(api.Record{Body: text(api.MaxBody)}))
		want := api.OK
		if more > 0 {
			want = api.ErrDiskFull
		}
		errnoIs(t, fmt.Sprint("what there is room for, and ", more), w.Put(api.Record{Body: text(room + more)}), want)
		if more > 0 {
			stuck(t, d, w, 1)
		} else {
			errnoIs(t, "one more", w.Put(api.Record{}), api.ErrDiskFull)
			stuck(t, d, w, 2)
		}
	}
}

func TestP19_9Fold(t *testing.T) {
	d := diskOf(t, sure("a", nil), sure("z", nil))
	w := drawerOf(t, d, 7)
	for n, body := range []string{"", "x", "", "summary"} {
		must(t, w.Put(record(1, "r")), w.Fold([]byte(body)))
		holds(t, "folded", d, sure("a", nil), sure(fmt.Sprintf("log-%08d", n+2), logOf(7, body)), sure("z", nil))
		if w.Len() != 0 {
			t.Errorf("Len %d", w.Len())
		}
	}
	must(t, w.Fold(nil), w.Fold([]byte("again")), w.Put(record(2, "s")))
	opens(t, "behind it", d, 7, found{summary: []byte("again"), records: []api.Record{record(2, "s")}})
	must(t, w.Fold(text(api.MaxBody)))
	opens(t, "the longest", d, 7, found{summary: text(api.MaxBody)})
}

func TestP19_9Errors(t *testing.T) {
	long := text(api.MaxBody + 1)
	last := sure("log-99999999", logOf(7, "x", record(1, "y")))
	d := diskOf(t, last)
	w := drawerOf(t, d, 7)
	errnoIs(t, "too long, and the last", w.Fold(long), api.ErrDrawerLong)
	errnoIs(t, "the last", w.Fold(nil), api.ErrDiskFull)
	errnoIs(t, "the last, again", w.Fold([]byte("x")), api.ErrDiskFull)
	holds(t, "nothing is done", d, last)
	if w.Len() != 1 {
		t.Errorf("Len %d", w.Len())
	}
	errnoIs(t, "it isn't stuck", w.Put(record(2, "z")), api.OK)
	d.Fail(0, 9)
	d.Arm(0)
	errnoIs(t, "no call is made", w.Fold(nil), api.ErrDiskFull)
	errnoIs(t, "it fails", w.Put(record(3, "")), api.ErrDiskIO)
	errnoIs(t, "stuck, too long, the last", w.Fold(long), api.ErrDrawerStuck)

	d = diskOf(t, sure("log-99999998", logOf(7, "x")))
	w = drawerOf(t, d, 7)
	must(t, w.Fold([]byte("y")))
	holds(t, "the last but one", d, sure("log-99999999", logOf(7, "y")))
	errnoIs(t, "and the last", w.Fold([]byte("z")), api.ErrDiskFull)

	d = diskOf(t, append(many(39), sure("log-00000001", logOf(7, "x")))...)
	w = drawerOf(t, d, 7)
	errnoIs(t, "too long, not stuck", w.Fold(long), api.ErrDrawerLong)
	errnoIs(t, "no room for a file", w.Fold(nil), api.ErrDiskFull)
	stuck(t, d, w, 0)
}

func TestP19_9Steps(t *testing.T) {
	old := sure("log-00000001", logOf(7, "", record(1, "a")))
	made := pieceOf(0, 7, 0, []byte("xy"))
	steps := [][]api.File{{old}, {old, {Name: "log-00000002", Data: made}}, {old, sure("log-00000002", made)}}
	for calls, want := range steps {
		d := diskOf(t, old)
		w := drawerOf(t, d, 7)
		d.Fail(calls, 1)
		errnoIs(t, "it fails", w.Fold([]byte("xy")), api.ErrDiskIO)
		holds(t, fmt.Sprint("failing call ", calls), d, want...)
		stuck(t, d, w, 1)
	}
	for units := range len(made) + 3 {
		d := diskOf(t, old)
		w := drawerOf(t, d, 7)
		d.Arm(units)
		errnoIs(t, "it falls", w.Fold([]byte("xy")), api.ErrDiskDown)
		torn := api.File{Name: "log-00000002", Data: made[:min(units, len(made))]}
		if units > len(made)+1 {
			torn.Synced = len(made)
		}
		holds(t, fmt.Sprint("Arm ", units), d, old, torn)
		d.Restart([]int{99})
		stuck(t, d, w, 1)
	}
	d := diskOf(t, old)
	w := drawerOf(t, d, 7)
	d.Arm(len(made) + 3)
	errnoIs(t, "as many units as it costs", w.Fold([]byte("xy")), api.OK)
	holds(t, "as many units as it costs", d, sure("log-00000002", made))
}

func TestP19_10Len(t *testing.T) {
	d := diskOf(t, sure("log-00000003", logOf(7, "x", record(1, ""), record(2, ""))))
	w := drawerOf(t, d, 7)
	lens := []int{w.Len()}
	note := func(api.Errno) { lens = append(lens, w.Len()) }
	note(w.Put(record(3, "")))
	note(w.Put(api.Record{Body: text(api.MaxBody + 1)}))
	note(w.Fold(text(api.MaxBody + 1)))
	note(w.Put(record(3, "")))
	note(w.Fold(nil))
	note(w.Put(record(3, "")))
	d.Fail(2, 1)
	note(w.Fold(nil))
	note(w.Put(record(3, "")))
	if want := []int{2, 3, 3, 3, 4, 0, 1, 1, 1}; !slices.Equal(lens, want) {
		t.Errorf("Len: %d, want %d", lens, want)
	}
}

// anyLog: a journal's bytes by chance: whole pieces, some of them spoilt.
func anyLog(r *rand.Rand) []byte {
	b := pieceOf(uint32(r.Intn(30)/29), uint32(6+r.Intn(20)/19), byte(r.Intn(30)/29), text(r.Intn(4)))
	for n := range r.Intn(4) {
		b = append(b, pieceOf(uint32(n+1+r.Intn(20)/19), uint32(6+r.Intn(20)/19), byte(r.Intn(3)), text(r.Intn(4)))...)
	}
	if r.Intn(3) == 0 {
		b = b[:r.Intn(len(b)+1)]
	}
	if r.Intn(5) == 0 && len(b) > 0 {
		b[r.Intn(len(b))] ^= 1 << r.Intn(8)
	}
	return b
}

func anyFiles(r *rand.Rand) []api.File {
	var l []api.File
	for _, name := range []string{"a", "log-00000000", "log-00000001", "log-00000002", "log-00000009", "log-00000010", "log-99999999", "z"} {
		if r.Intn(4) == 0 {
			b := anyLog(r)
			l = append(l, api.File{Name: name, Data: b, Synced: r.Intn(len(b) + 1)})
		}
	}
	return l
}

// Disks and drawers by chance, rigs and falls between, against the model.
func TestP19_7To10ByChance(t *testing.T) {
	r := rand.New(rand.NewSource(197))
	seen := tally{}
	for range 6000 {
		p := newPair(t, anyFiles(r)...)
		w := (*drawers)(nil)
		for range 25 {
			switch r.Intn(14) {
			case 0:
				p.arm(r.Intn(80) - 2)
			case 1:
				p.fail(r.Intn(7)-1, r.Intn(3))
			case 2:
				p.restart(t, r.Intn(30)-1, r.Intn(30)-1)
			case 3:
				p.do(t, anyCall(r))
			case 4, 5:
				opened, e := p.open(t, uint32(6+r.Intn(12)/11))
				seen[fmt.Sprint("Open ", int(e))]++
				if opened != nil {
					w = opened
				}
			case 6, 7:
				if w != nil {
					seen[fmt.Sprint("Fold ", int(w.fold(t, text(r.Intn(5)))))]++
				}
			default:
				if w != nil {
					seen[fmt.Sprint("Put ", int(w.put(t, api.Record{Kind: byte(r.Intn(256)), Body: text(r.Intn(5))})))]++
				}
			}
		}
	}
	seen.atLeast(t, 100, "Open 0", "Open 190", "Open 191", "Open 198", "Put 0", "Put 190", "Put 191", "Put 196", "Fold 0", "Fold 190", "Fold 191", "Fold 194", "Fold 196")
}
