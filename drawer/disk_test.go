package drawer_test

import (
	"fmt"
	"math"
	"math/rand"
	"slices"
	"strings"
	"testing"

	"levy/api"
	"levy/drawer"
)

// refused asks NewDisk to refuse files.
func refused(t *testing.T, what string, files ...api.File) {
	t.Helper()
	if d, e := drawer.NewDisk(files); d != nil || e != api.ErrDiskFiles {
		t.Errorf("%s: a disk: %t, error %d", what, d != nil, int(e))
	}
}

// many: so many files of one byte.
func many(n int) []api.File {
	var l []api.File
	for i := range n {
		l = append(l, api.File{Name: fmt.Sprintf("f%02d", i), Data: []byte{byte(i)}, Synced: i % 2})
	}
	return l
}

func TestP19_1Limits(t *testing.T) {
	if api.MaxFile != 2097152 || api.MaxFiles != 40 || api.MaxBody != 1048576 {
		t.Error("the limits")
	}
	holds(t, "40 files", diskOf(t, many(40)...), many(40)...)
	refused(t, "41 files", many(41)...)
	most := text(api.MaxFile)
	for _, n := range []int{0, 1, api.MaxFile - 1, api.MaxFile} {
		f := api.File{Name: "a", Data: most, Synced: n}
		holds(t, "a file of the most bytes", diskOf(t, f), f)
	}
	for _, n := range []int{0, 1, api.MaxFile, api.MaxFile + 1} {
		refused(t, "one byte more", api.File{Name: "a", Data: text(api.MaxFile + 1), Synced: n})
	}
	both := []api.File{sure("a", most), sure("b", most), {Name: "c", Data: most}}
	holds(t, "the bound is one of each file", diskOf(t, both...), both...)
}

func TestP19_1Files(t *testing.T) {
	holds(t, "nil", diskOf(t))
	d, e := drawer.NewDisk([]api.File{})
	errnoIs(t, "none", e, api.OK)
	holds(t, "none", d)
	l := []api.File{{Name: "-"}, {Name: "0", Data: []byte("x")}, {Name: "a", Data: []byte("xy"), Synced: 1}, {Name: "abc-def-0123"}, sure("b", []byte("xyz"))}
	for turn := range l {
		holds(t, "by name", diskOf(t, append(slices.Clone(l[turn:]), l[:turn]...)...), l...)
	}
	for _, n := range []int{-1, 4, 5, math.MinInt, math.MaxInt} {
		refused(t, fmt.Sprint("Synced ", n), api.File{Name: "a", Data: []byte("abc"), Synced: n})
		refused(t, fmt.Sprint("Synced ", n, ", the last"), append(many(3), api.File{Name: "a", Data: []byte("abc"), Synced: n})...)
	}
	refused(t, "Synced 1 of none", api.File{Name: "a", Synced: 1})
	refused(t, "twice", api.File{Name: "a"}, api.File{Name: "a"})
	refused(t, "twice, apart", api.File{Name: "a", Data: []byte("x")}, api.File{Name: "b"}, api.File{Name: "a"})
	refused(t, "all wrong", api.File{Name: "A", Synced: 5})
}

// Each byte at each place of names of each length, in all calls.
func TestP19_1Names(t *testing.T) {
	for size := 0; size <= 14; size++ {
		for at := range max(size, 1) {
			for b := range 256 {
				name := []byte(strings.Repeat("k", size))
				if size > 0 {
					name[at] = byte(b)
				}
				allowed := size >= 1 && size <= 12 && strings.ContainsRune("abcdefghijklmnopqrstuvwxyz0123456789-", rune(b))
				named(t, string(name), allowed)
			}
		}
	}
	for _, name := range []string{"ä", "ａ", "١", "a\x00", "a b", "a.b", "a_b", "a/b", "\xff", strings.Repeat("a", 1<<16)} {
		named(t, name, false)
	}
}

func named(t *testing.T, name string, allowed bool) {
	t.Helper()
	made, missing := api.ErrDiskName, api.ErrDiskName
	if allowed {
		made, missing = api.OK, api.ErrDiskNone
	}
	d, e := drawer.NewDisk([]api.File{{Name: name}})
	if (d != nil) != allowed || !allowed && e != api.ErrDiskFiles {
		t.Fatalf("NewDisk of %.20q: error %d", name, int(e))
	}
	d = diskOf(t)
	_, e = d.Read(name)
	got := []api.Errno{e, d.Sync(name), d.Trim(name, 0), d.Remove(name), d.Append(name, nil), d.Remove(name)}
	if want := []api.Errno{missing, missing, missing, missing, made, made}; !slices.Equal(got, want) {
		t.Fatalf("%.20q: %d, want %d", name, got, want)
	}
}

// changing: the four changing calls on a file, and Read last.
func changing(name string) []call {
	return []call{{what: "Append", name: name, data: []byte("+")}, {what: "Sync", name: name}, {what: "Trim", name: name, size: 1}, {what: "Remove", name: name}, {what: "Read", name: name}}
}

func TestP19_2NameAheadOfDown(t *testing.T) {
	for _, c := range changing("No") {
		p := newPair(t, sure("a", []byte("xy")))
		p.fail(0, 9)
		p.arm(0)
		errnoIs(t, "a name, rigs", p.do(t, c), api.ErrDiskName)
		p.crash(t)
		errnoIs(t, "a name, down", p.do(t, c), api.ErrDiskName)
		p.restart(t)
		p.fail(0, 1)
		errnoIs(t, "a name costs Fail's rig nothing", p.do(t, c), api.ErrDiskName)
		errnoIs(t, "it is still set", p.do(t, call{what: "Sync", name: "a"}), api.ErrDiskIO)
	}
}

func TestP19_2Down(t *testing.T) {
	for _, name := range []string{"a", "none"} {
		for _, c := range changing(name) {
			p := newPair(t, api.File{Name: "a", Data: []byte("xy"), Synced: 1})
			p.crash(t)
			errnoIs(t, c.String(), p.do(t, c), api.ErrDiskDown)
			errnoIs(t, c.String(), p.do(t, c), api.ErrDiskDown)
			holds(t, "nothing is done", p.disk, api.File{Name: "a", Data: []byte("xy"), Synced: 1})
		}
	}
}

func TestP19_2Fail(t *testing.T) {
	for after := range 4 {
		for calls := 1; calls < 4; calls++ {
			p := newPair(t, api.File{Name: "a", Data: []byte("xy"), Synced: 1})
			p.fail(after, calls)
			for n := range after + calls + 3 {
				want := api.OK
				if n >= after && n < after+calls {
					want = api.ErrDiskIO
				}
				c := changing("a")[n%3]
				errnoIs(t, fmt.Sprintf("Fail(%d, %d), call %d", after, calls, n), p.do(t, c), want)
				errnoIs(t, "Read is none of them", p.do(t, call{what: "Read", name: "a"}), api.OK)
			}
		}
	}
	for _, c := range changing("a")[:4] {
		p := newPair(t, api.File{Name: "a", Data: []byte("xy"), Synced: 1})
		p.fail(0, 1)
		errnoIs(t, c.String(), p.do(t, c), api.ErrDiskIO)
		holds(t, "nothing is done", p.disk, api.File{Name: "a", Data: []byte("xy"), Synced: 1})
		errnoIs(t, c.String(), p.do(t, c), api.OK)
	}
}

// Fail comes ahead of a file that isn't there and of a disk that is full, and counts such calls; Arm comes behind them, and doesn't.
func TestP19_2Order(t *testing.T) {
	for _, c := range changing("none")[1:4] {
		p := newPair(t, sure("a", nil))
		p.fail(1, 2)
		p.arm(0)
		errnoIs(t, "it goes on", p.do(t, c), api.ErrDiskNone)
		errnoIs(t, "it fails", p.do(t, c), api.ErrDiskIO)
		errnoIs(t, "it fails again", p.do(t, c), api.ErrDiskIO)
		errnoIs(t, "there is none", p.do(t, c), api.ErrDiskNone)
		errnoIs(t, "the machine stood all along", p.do(t, call{what: "Sync", name: "a"}), api.ErrDiskDown)
	}
	p := newPair(t, append(many(39), sure("full", text(api.MaxFile)))...)
	for _, c := range []call{{what: "Append", name: "new"}, {what: "Append", name: "full", data: []byte("x")}} {
		p.fail(1, 1)
		p.arm(0)
		errnoIs(t, "it goes on", p.do(t, c), api.ErrDiskFull)
		errnoIs(t, "it fails", p.do(t, c), api.ErrDiskIO)
		errnoIs(t, "it is full", p.do(t, c), api.ErrDiskFull)
		errnoIs(t, "Read of none", p.do(t, call{what: "Read", name: "none"}), api.ErrDiskNone)
	}
	errnoIs(t, "the machine falls", p.do(t, call{what: "Append", name: "full"}), api.ErrDiskDown)
}

func TestP19_2Full(t *testing.T) {
	d := diskOf(t, many(39)...)
	must(t, d.Append("new", nil))
	errnoIs(t, "a file above MaxFiles", d.Append("newer", nil), api.ErrDiskFull)
	errnoIs(t, "a file that is there", d.Append("new", []byte("x")), api.OK)
	must(t, d.Remove("f00"))
	errnoIs(t, "room again", d.Append("newer", nil), api.OK)
	errnoIs(t, "and none", d.Append("newest", nil), api.ErrDiskFull)
	d = diskOf(t)
	errnoIs(t, "more than a file holds", d.Append("a", text(api.MaxFile+1)), api.ErrDiskFull)
	holds(t, "no file is made", d)
	must(t, d.Append("a", text(api.MaxFile)), d.Append("a", nil))
	errnoIs(t, "a byte more", d.Append("a", []byte("x")), api.ErrDiskFull)
	must(t, d.Trim("a", api.MaxFile-3))
	errnoIs(t, "four bytes for three", d.Append("a", text(4)), api.ErrDiskFull)
	errnoIs(t, "three for three", d.Append("a", []byte("xyz")), api.OK)
	holds(t, "full", d, api.File{Name: "a", Data: append(text(api.MaxFile-3), "xyz"...)})
}

// Each number of units, up to more than a call costs: of Append, how many of its bytes are laid.
func TestP19_2Arm(t *testing.T) {
	for _, name := range []string{"a", "new"} {
		for size := range 5 {
			for units := range size + 4 {
				p := newPair(t, api.File{Name: "a", Data: []byte("xy"), Synced: 1})
				p.arm(units)
				want := api.OK
				if units < size+1 {
					want = api.ErrDiskDown
				}
				what := fmt.Sprintf("Arm(%d), Append of %d to %s", units, size, name)
				errnoIs(t, what, p.do(t, call{what: "Append", name: name, data: text(size)}), want)
				laid := api.File{Name: name, Data: text(min(units, size))}
				if name == "a" {
					laid = api.File{Name: "a", Data: append([]byte("xy"), laid.Data...), Synced: 1}
					holds(t, what, p.disk, laid)
				} else {
					holds(t, what, p.disk, api.File{Name: "a", Data: []byte("xy"), Synced: 1}, laid)
				}
				for left := units - size - 1; left > 0; left-- {
					errnoIs(t, what+", and what is left", p.do(t, call{what: "Sync", name: name}), api.OK)
				}
				errnoIs(t, what+", then nothing is left", p.do(t, call{what: "Sync", name: name}), api.ErrDiskDown)
			}
		}
	}
	for _, c := range changing("a")[1:4] {
		p := newPair(t, api.File{Name: "a", Data: []byte("xyz"), Synced: 1})
		p.arm(0)
		errnoIs(t, c.String(), p.do(t, c), api.ErrDiskDown)
		holds(t, "nothing is done", p.disk, api.File{Name: "a", Data: []byte("xyz"), Synced: 1})
		p.restart(t, 9)
		p.arm(1)
		errnoIs(t, c.String(), p.do(t, c), api.OK)
	}
	p := newPair(t, sure("a", []byte("xy")))
	p.arm(0)
	errnoIs(t, "Read costs nothing", p.do(t, call{what: "Read", name: "a"}), api.OK)
}

// A call that fails, or finds nothing, costs no units.
func TestP19_2RefusedCallsAreFree(t *testing.T) {
	p := newPair(t, sure("a", []byte("xy")))
	p.arm(1)
	p.fail(0, 2)
	errnoIs(t, "it fails", p.do(t, call{what: "Sync", name: "a"}), api.ErrDiskIO)
	errnoIs(t, "it fails", p.do(t, call{what: "Append", name: "a", data: text(9)}), api.ErrDiskIO)
	errnoIs(t, "there is none", p.do(t, call{what: "Remove", name: "b"}), api.ErrDiskNone)
	errnoIs(t, "no name", p.do(t, call{what: "Append", name: "B", data: text(9)}), api.ErrDiskName)
	errnoIs(t, "the unit is there", p.do(t, call{what: "Sync", name: "a"}), api.OK)
	errnoIs(t, "and is gone", p.do(t, call{what: "Sync", name: "a"}), api.ErrDiskDown)
}

func TestP19_3Calls(t *testing.T) {
	d := diskOf(t)
	must(t, d.Append("b", []byte("123")), d.Append("a", nil), d.Append("b", []byte("45")))
	holds(t, "Append", d, api.File{Name: "a"}, api.File{Name: "b", Data: []byte("12345")})
	must(t, d.Sync("b"), d.Append("b", []byte("67")))
	holds(t, "Sync, Append", d, api.File{Name: "a"}, api.File{Name: "b", Data: []byte("1234567"), Synced: 5})
	got, e := d.Read("b")
	if string(got) != "1234567" || e != api.OK {
		t.Errorf("Read: %q, error %d", got, int(e))
	}
	got, e = d.Read("a")
	if len(got) != 0 || e != api.OK {
		t.Errorf("Read of no bytes: %q, error %d", got, int(e))
	}
	got, e = d.Read("none")
	if len(got) != 0 || e != api.ErrDiskNone {
		t.Errorf("Read of none: %q, error %d", got, int(e))
	}
	must(t, d.Remove("b"))
	holds(t, "Remove", d, api.File{Name: "a"})
	must(t, d.Append("b", []byte("8")))
	holds(t, "a file of a name that was there has nothing of the old one", d, api.File{Name: "a"}, api.File{Name: "b", Data: []byte("8")})
}

func TestP19_3Trim(t *testing.T) {
	for synced := range 5 {
		for _, size := range []int{math.MinInt, -2, -1, 0, 1, 2, 3, 4, 5, 99, math.MaxInt} {
			d := diskOf(t, api.File{Name: "a", Data: []byte("wxyz"), Synced: synced})
			must(t, d.Trim("a", size))
			left := min(max(size, 0), 4)
			holds(t, fmt.Sprintf("Trim(%d) of 4, %d sure", size, synced), d, api.File{Name: "a", Data: []byte("wxyz")[:left], Synced: min(synced, left)})
			must(t, d.Append("a", []byte("!!")))
			holds(t, "what is laid behind a cut isn't sure", d, api.File{Name: "a", Data: append([]byte("wxyz")[:left:left], "!!"...), Synced: min(synced, left)})
			d.Restart(nil)
			holds(t, "the cut stands", d, sure("a", []byte("wxyz")[:min(synced, left)]))
		}
	}
}

// A cut and a removal stand at once: a fall behind them brings nothing back.
func TestP19_3CutsAreSure(t *testing.T) {
	d := diskOf(t, sure("a", []byte("wxyz")), sure("b", []byte("wxyz")))
	must(t, d.Trim("a", 2), d.Remove("b"))
	d.Crash()
	d.Restart([]int{99})
	holds(t, "behind a fall", d, sure("a", []byte("wx")))
}

func TestP19_4Arm(t *testing.T) {
	for _, units := range []int{-1, -2, math.MinInt} {
		p := newPair(t, sure("a", nil))
		p.arm(0)
		p.arm(units)
		errnoIs(t, "no rig", p.do(t, call{what: "Append", name: "a", data: text(100)}), api.OK)
	}
	p := newPair(t, sure("a", nil))
	p.arm(0)
	p.arm(2)
	errnoIs(t, "the last counts", p.do(t, call{what: "Append", name: "a", data: text(1)}), api.OK)
	p.arm(math.MaxInt)
	errnoIs(t, "many", p.do(t, call{what: "Append", name: "a", data: text(1)}), api.OK)
	p.crash(t)
	p.arm(0)
	p.fail(0, 1)
	p.restart(t)
	errnoIs(t, "set while it was down", p.do(t, call{what: "Append", name: "a", data: text(1)}), api.OK)
}

func TestP19_4Fail(t *testing.T) {
	for _, l := range [][2]int{{-1, 1}, {math.MinInt, math.MaxInt}, {0, 0}, {3, 0}, {0, -1}, {5, math.MinInt}, {-1, -1}} {
		p := newPair(t, sure("a", nil))
		p.fail(0, 5)
		p.arm(7)
		p.fail(l[0], l[1])
		for range 7 {
			errnoIs(t, fmt.Sprint("no rig: Fail ", l), p.do(t, call{what: "Sync", name: "a"}), api.OK)
		}
		errnoIs(t, "the other rig is as it was", p.do(t, call{what: "Sync", name: "a"}), api.ErrDiskDown)
	}
	p := newPair(t, sure("a", nil))
	p.fail(1, 1)
	p.fail(2, 1)
	for n, want := range []api.Errno{api.OK, api.OK, api.ErrDiskIO, api.OK} {
		errnoIs(t, fmt.Sprint("the last counts: ", n), p.do(t, call{what: "Sync", name: "a"}), want)
	}
	p.fail(math.MaxInt, math.MaxInt)
	errnoIs(t, "far off", p.do(t, call{what: "Sync", name: "a"}), api.OK)
	p.fail(0, math.MaxInt)
	errnoIs(t, "for ever", p.do(t, call{what: "Sync", name: "a"}), api.ErrDiskIO)
	p.arm(-1)
	errnoIs(t, "Arm leaves it", p.do(t, call{what: "Sync", name: "a"}), api.ErrDiskIO)
}

// A fall, however it comes, takes both rigs away, and leaves the files as they are.
func TestP19_4FallsTakeRigsAway(t *testing.T) {
	falls := map[string]func(p *pair){
		"Crash":   func(p *pair) { p.crash(t) },
		"Restart": func(p *pair) {},
		"a call":  func(p *pair) { p.arm(0); p.fail(1, 9); p.do(t, call{what: "Sync", name: "a"}) },
	}
	for what, fall := range falls {
		p := newPair(t, api.File{Name: "a", Data: []byte("xyz"), Synced: 1})
		p.arm(0)
		p.fail(0, 9)
		fall(p)
		holds(t, what, p.disk, api.File{Name: "a", Data: []byte("xyz"), Synced: 1})
		p.crash(t)
		holds(t, what+", and Crash again", p.disk, api.File{Name: "a", Data: []byte("xyz"), Synced: 1})
		p.restart(t, 1)
		holds(t, what, p.disk, sure("a", []byte("xy")))
		errnoIs(t, what, p.do(t, call{what: "Append", name: "a", data: text(9)}), api.OK)
	}
}

func TestP19_4Restart(t *testing.T) {
	files := []api.File{{Name: "a", Data: []byte("0123"), Synced: 2}, {Name: "b", Data: []byte("0123")}, sure("c", []byte("0123")), {Name: "d"}, {Name: "e", Data: []byte("0123"), Synced: 1}}
	rows := []struct {
		keep []int
		left [5]int
	}{
		{nil, [5]int{2, 0, 4, 0, 1}}, {[]int{}, [5]int{2, 0, 4, 0, 1}}, {[]int{0}, [5]int{2, 0, 4, 0, 1}}, {[]int{-1}, [5]int{2, 0, 4, 0, 1}}, {[]int{math.MinInt}, [5]int{2, 0, 4, 0, 1}},
		{[]int{1}, [5]int{3, 1, 4, 0, 2}}, {[]int{2}, [5]int{4, 2, 4, 0, 3}}, {[]int{3}, [5]int{4, 3, 4, 0, 4}}, {[]int{99}, [5]int{4, 4, 4, 0, 4}}, {[]int{math.MaxInt}, [5]int{4, 4, 4, 0, 4}},
		{[]int{0, 3}, [5]int{2, 3, 4, 0, 1}}, {[]int{1, 0, 9}, [5]int{3, 0, 4, 0, 1}}, {[]int{0, 2, 0, 0, 1}, [5]int{2, 2, 4, 0, 2}}, {[]int{0, 0, 0, 0, 2, 9}, [5]int{2, 0, 4, 0, 3}}, {[]int{1, 2, 3, 4}, [5]int{3, 2, 4, 0, 2}},
	}
	for _, row := range rows {
		for _, down := range []bool{true, false} {
			p := newPair(t, files...)
			if down {
				p.crash(t)
			}
			p.restart(t, row.keep...)
			var want []api.File
			for i, f := range files {
				want = append(want, sure(f.Name, f.Data[:row.left[i]]))
			}
			holds(t, fmt.Sprint("Restart ", row.keep, ", down: ", down), p.disk, want...)
			errnoIs(t, "it is up", p.do(t, call{what: "Append", name: "a"}), api.OK)
		}
	}
	d := diskOf(t)
	d.Restart([]int{5})
	holds(t, "no files", d)
}

// anyCall: a call by chance, more often than not one that can be done.
func anyCall(r *rand.Rand) call {
	return call{
		what: pick(r, "Append", "Append", "Append", "Sync", "Trim", "Remove", "Read"), name: pick(r, "a", "b", "c-3", "d", "log-00000001", "z", "E", ""),
		data: text(r.Intn(6)), size: pick(r, -1, 0, 1, 2, 3, 5, 9),
	}
}

func TestP19_2To4ByChance(t *testing.T) {
	r := rand.New(rand.NewSource(194))
	seen := tally{}
	for range 3000 {
		p := newPair(t, api.File{Name: "d", Data: text(4), Synced: r.Intn(5)}, api.File{Name: "b", Data: text(3), Synced: r.Intn(4)})
		for range 40 {
			switch r.Intn(12) {
			case 0:
				p.arm(r.Intn(20) - 2)
			case 1:
				p.fail(r.Intn(5)-1, r.Intn(4))
			case 2:
				p.crash(t)
			case 3, 4:
				keep := make([]int, r.Intn(4))
				for i := range keep {
					keep[i] = r.Intn(6) - 1
				}
				p.restart(t, keep...)
			default:
				c := anyCall(r)
				seen[fmt.Sprint(c.what, " ", int(p.do(t, c)))]++
			}
		}
	}
	for _, what := range []string{"Append", "Sync", "Trim", "Remove"} {
		for _, e := range []int{0, 190, 191, 192, 193} {
			if what != "Append" || e != 193 {
				seen.atLeast(t, 100, fmt.Sprint(what, " ", e))
			}
		}
	}
	seen.atLeast(t, 100, "Read 0", "Read 190", "Read 192", "Read 193")
}
