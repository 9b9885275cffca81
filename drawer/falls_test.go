package drawer_test

import (
	"fmt"
	"math/rand"
	"slices"
	"strings"
	"testing"

	"levy/api"
	"levy/drawer"
)

// life: a disk, its drawer, and what Open may tell, as P19.11 has it.
type life struct {
	disk   *drawer.Disk
	drawer *drawer.Drawer
	may    []string // states; one, as long as all went well
}

// stateOf: a summary and records as one text.
func stateOf(summary []byte, records []api.Record) string {
	s := fmt.Sprintf("%q", summary)
	for _, r := range records {
		s += fmt.Sprintf(" %d:%q", r.Kind, r.Body)
	}
	return s
}

func newLife(t *testing.T) *life { return &life{disk: diskOf(t), may: []string{stateOf(nil, nil)}} }

// do does a step of a script: "open", "put BODY" or "fold SUMMARY", and notes what may be there behind it.
func (l *life) do(t *testing.T, step string) api.Errno {
	t.Helper()
	what, body, _ := strings.Cut(step, " ")
	if what == "open" {
		return l.open(t)
	}
	if l.drawer == nil {
		return api.ErrDiskDown
	}
	r := record(byte(len(body)), body)
	e, then := api.OK, stateOf([]byte(body), nil)
	if what == "put" {
		e, then = l.drawer.Put(r), l.may[0]+strings.TrimPrefix(stateOf(nil, []api.Record{r}), `""`)
	} else {
		e = l.drawer.Fold([]byte(body))
	}
	switch e {
	case api.OK:
		l.may = []string{then}
	case api.ErrDrawerStuck:
	default:
		l.may = []string{l.may[0], then}
	}
	return e
}

// open opens the drawer, and asks that it tells what it may; from then on just that may be there.
func (l *life) open(t *testing.T) api.Errno {
	t.Helper()
	w, summary, records, e := drawer.Open(l.disk, 7)
	if l.drawer = w; e != api.OK {
		return e
	}
	told := stateOf(summary, records)
	if !slices.Contains(l.may, told) {
		t.Fatalf("Open tells %s, of %q", told, l.may)
	}
	l.may = []string{told}
	return e
}

var script = []string{"open", "put ab", "put ", "fold xyz", "put c", "fold ", "put d", "put efg", "open", "put h", "fold last"}

// costs: how many units all of the script costs, from an empty disk on.
func costs(t *testing.T) int {
	for units := 0; ; units++ {
		l := newLife(t)
		l.disk.Arm(units)
		if !slices.ContainsFunc(script, func(step string) bool { return l.do(t, step) != api.OK }) {
			return units
		}
	}
}

// fallen: the script's life up to a fall behind so many units.
func fallen(t *testing.T, units int) *life {
	t.Helper()
	l := newLife(t)
	l.disk.Arm(units)
	for _, step := range script {
		if e := l.do(t, step); e != api.OK {
			errnoIs(t, step, e, api.ErrDiskDown)
			return l
		}
	}
	t.Fatalf("no fall behind %d units", units)
	return nil
}

// A fall at each unit of a script, with each number of bytes that survive.
func TestP19_11FallsAtEachUnit(t *testing.T) {
	seen := tally{}
	for units := range costs(t) {
		for kept := range 24 {
			l := fallen(t, units)
			l.disk.Restart([]int{kept})
			told := l.may
			must(t, l.open(t), l.do(t, "put more"))
			if len(told) == 2 {
				seen[fmt.Sprint("of two, number ", slices.Index(told, strings.TrimSuffix(l.may[0], ` 4:"more"`)))]++
			}
			l.disk.Restart(nil)
			must(t, l.open(t), l.do(t, "fold new"))
			l.disk.Restart(nil)
			must(t, l.open(t))
		}
	}
	seen.atLeast(t, 100, "of two, number 0", "of two, number 1")
}

// A second fall, at each unit of the opening behind the first one.
func TestP19_11FallsWithinOpen(t *testing.T) {
	n := 0
	for units := range costs(t) {
		for _, kept := range [][]int{nil, {1}, {18, 3}, {99}} {
			for again := range 24 {
				for _, then := range []int{0, 7, 99} {
					l := fallen(t, units)
					l.disk.Restart(kept)
					l.disk.Arm(again)
					if l.open(t) == api.OK {
						continue
					}
					n++
					l.disk.Restart([]int{then})
					must(t, l.open(t), l.do(t, "put more"))
					l.disk.Restart(nil)
					must(t, l.open(t))
				}
			}
		}
	}
	if n < 1000 {
		t.Errorf("%d falls within Open", n)
	}
}

// Each changing call of a script fails, by ones and twos; then the drawer is opened again, behind a fall or without one.
func TestP19_11CallsThatFail(t *testing.T) {
	for after := range 40 {
		for calls := 1; calls < 4; calls++ {
			for kept := -1; kept < 24; kept++ {
				l := newLife(t)
				l.disk.Fail(after, calls)
				for _, step := range script {
					if l.do(t, step) != api.OK {
						break
					}
				}
				if kept >= 0 {
					l.disk.Restart([]int{kept})
				}
				for l.open(t) != api.OK {
				}
				l.disk.Fail(0, 0)
				must(t, l.do(t, "put more"))
				l.disk.Restart(nil)
				must(t, l.open(t))
			}
		}
	}
}

// Many lives of one disk, by chance.
func TestP19_11ByChance(t *testing.T) {
	r := rand.New(rand.NewSource(1911))
	seen := tally{}
	for range 2000 {
		l := newLife(t)
		for range 60 {
			switch r.Intn(12) {
			case 0:
				l.disk.Arm(r.Intn(120))
			case 1:
				l.disk.Fail(r.Intn(9), 1+r.Intn(3))
			case 2:
				l.disk.Crash()
			case 3, 4:
				l.disk.Restart([]int{r.Intn(40) - 5, r.Intn(40) - 5})
				seen[fmt.Sprint("open ", int(l.open(t)))]++
			case 5:
				seen[fmt.Sprint("open ", int(l.open(t)))]++
			case 6, 7:
				seen[fmt.Sprint("fold ", int(l.do(t, fmt.Sprint("fold ", strings.Repeat("s", r.Intn(5))))))]++
			default:
				seen[fmt.Sprint("put ", int(l.do(t, fmt.Sprint("put ", strings.Repeat("r", r.Intn(5))))))]++
			}
		}
		l.disk.Restart([]int{r.Intn(40)})
		must(t, l.open(t))
	}
	seen.atLeast(t, 100, "open 0", "open 190", "open 191", "put 0", "put 190", "put 191", "put 196", "fold 0", "fold 190", "fold 191", "fold 196")
}

// Two calls, and a unit for each byte of the piece: no more, no less.
func TestP19_12Cost(t *testing.T) {
	for _, size := range []int{0, 1, 2, 100, 5000, api.MaxBody} {
		for ahead := range 3 {
			d := diskOf(t)
			w := drawerOf(t, d, 7)
			for range ahead {
				must(t, w.Put(record(1, "ahead")))
			}
			before := len(d.Files()[0].Data)
			d.Fail(2, 1)
			d.Arm(size + 18 + 2)
			errnoIs(t, fmt.Sprint("Put of ", size), w.Put(api.Record{Body: text(size)}), api.OK)
			if f := d.Files(); len(f) != 1 || len(f[0].Data) != before+18+size {
				t.Errorf("Put of %d: %s", size, brief(f))
			}
			errnoIs(t, "two calls", d.Append("a", nil), api.ErrDiskIO)
			errnoIs(t, "and no unit left", d.Append("a", nil), api.ErrDiskDown)
		}
	}
}

// rounds lets rounds of k records of m bytes and a Fold of n bytes go by, and tells the first error.
func rounds(w *drawer.Drawer, n, k, m, many int) api.Errno {
	for range many {
		for range k {
			if e := w.Put(api.Record{Kind: 1, Body: text(m)}); e != api.OK {
				return e
			}
		}
		if e := w.Fold(text(n)); e != api.OK {
			return e
		}
	}
	return api.OK
}

func TestP19_12Room(t *testing.T) {
	for _, row := range []struct{ n, k, m int }{{api.MaxBody, 1, api.MaxBody - 36}, {api.MaxBody, 2, (api.MaxBody - 54) / 2}, {api.MaxFile/2 - 18 - 16*18, 16, api.MaxFile / 32}, {0, 1, api.MaxBody}, {8, 3, 100}} {
		if row.n+18+row.k*(row.m+18) > api.MaxFile {
			t.Fatalf("no room: %+v", row)
		}
		d := diskOf(t, many(38)...)
		errnoIs(t, fmt.Sprintf("%+v", row), rounds(drawerOf(t, d, 7), row.n, row.k, row.m, 5), api.OK)
	}
	tight := drawerOf(t, diskOf(t), 7)
	errnoIs(t, "a byte more", rounds(tight, api.MaxBody, 1, api.MaxBody-35, 5), api.ErrDiskFull)
	errnoIs(t, "a file more", rounds(drawerOf(t, diskOf(t, many(39)...), 7), 8, 3, 100, 1), api.ErrDiskFull)
	late := diskOf(t, sure("log-99999990", logOf(7, "x")))
	errnoIs(t, "nine generations", rounds(drawerOf(t, late, 7), 8, 3, 100, 9), api.OK)
	errnoIs(t, "and none behind the last", rounds(drawerOf(t, late, 7), 8, 3, 100, 1), api.ErrDiskFull)
}
