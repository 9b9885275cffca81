package sheet_test

import (
	"fmt"
	"math/big"
	"regexp"
	"slices"
	"strconv"
	"strings"
	"sync"
	"testing"
	"time"

	"levy/api"
	"levy/graph"
)

// model: the chapter's words, over a pack. Lines are cut by regular expressions, numbers are big, days the library's.
type model struct {
	pack  api.Pack
	graph *graph.Graph
}

func modelOf(t *testing.T, p api.Pack) *model {
	t.Helper()
	g, _, e := graph.New(p)
	if e != api.OK {
		t.Fatalf("graph.New(%+v): error %d", p, e)
	}
	return &model{p, g}
}

func (m *model) flag(group, row int) uint32 {
	cell, _ := m.graph.Flag(group, row)
	return uint32(cell)
}

func (m *model) cell(line, row int) uint32 {
	cell, _ := m.graph.Cell(line, row)
	return uint32(cell)
}

func (m *model) check(check, row int) uint32 {
	cell, _ := m.graph.Check(check, row)
	return uint32(cell)
}

// P18.6.
func (m *model) text(options int, v api.Value) string {
	switch v.Kind {
	case api.Cents:
		n, sign := v.Num, ""
		if n < 0 {
			n, sign = -n, "-"
		}
		return fmt.Sprintf("%s%d.%02d", sign, n/100, n%100)
	case api.Count:
		return fmt.Sprint(v.Num)
	case api.Flag:
		return []string{"no", "yes"}[v.Num]
	case api.Day:
		return time.Date(1900, 1, 1+int(v.Num), 0, 0, 0, 0, time.UTC).Format("2006-01-02")
	case api.Choice:
		return ":" + m.pack.Options[options].Names[v.Num]
	case api.Fault:
		return []string{"", "#over", "#zero", "#needed", "#range", "#wrong"}[v.Num]
	}
	return "-"
}

// P18.3 to P18.5: the entries' lines, without blanks at the end.
func (m *model) entries(in cells, vals []api.Value) []string {
	var l []string
	lines := func(group, row int, indent string) {
		for i, x := range m.pack.Lines {
			cell := m.cell(i, row)
			switch {
			case x.Group != group:
			case x.Input:
				l = append(l, entry("> "+indent+x.Name, m.text(x.Options, in[cell])))
			default:
				l = append(l, entry("  "+indent+x.Name, m.text(x.Options, vals[cell])))
			}
		}
	}
	used := func(group int) (rows []int) {
		for row := range m.pack.Groups[group].Rows {
			if _, ok := in[m.flag(group, row)]; ok {
				rows = append(rows, row)
			}
		}
		return rows
	}
	lines(-1, 0, "")
	for group, g := range m.pack.Groups {
		l = append(l, fmt.Sprintf("[%s] %d of %d", g.Name, len(used(group)), g.Rows))
		for _, row := range used(group) {
			l = append(l, fmt.Sprintf("  %s row %d:", g.Name, row+1))
			lines(group, row, "  ")
		}
	}
	var behind []string
	for i, c := range m.pack.Checks {
		if c.Group == -1 {
			l = append(l, entry("! "+c.Name, m.text(-1, vals[m.check(i, 0)])))
			continue
		}
		for _, row := range used(c.Group) {
			behind = append(behind, entry(fmt.Sprintf("! %s.%d", c.Name, row+1), m.text(-1, vals[m.check(i, row)])))
		}
	}
	return append(l, behind...)
}

// P18.1, P18.2.
func (m *model) pages(entries []string) []string {
	many := max(1, (len(entries)+36)/37)
	var pages []string
	for i := range many {
		page := headOf(m.pack, i+1, many) + "\n" + strings.Repeat("=", 72) + "\n"
		for place := 37 * i; place < 37*i+37; place++ {
			text := ""
			if place < len(entries) {
				text = entries[place]
			}
			page += fmt.Sprintf("%-72s\n", text)
		}
		pages = append(pages, page+footOf(page)+"\n")
	}
	return pages
}

// found: what Read is to answer.
type found struct {
	in         cells
	page, line int
	errno      api.Errno
}

// P18.8.
func (m *model) read(pages []string) found {
	if len(pages) < 1 || len(pages) > 8 {
		return found{errno: api.ErrSheetSize}
	}
	var places []string
	for i, page := range pages {
		l := strings.Split(page, "\n")
		if len(l) != 41 || l[40] != "" || slices.ContainsFunc(l[:40], func(s string) bool { return len(s) != 72 }) {
			return found{page: i, errno: api.ErrSheetSize}
		}
		places = append(places, l[2:39]...)
	}
	for i, page := range pages {
		l := strings.Split(page, "\n")
		due := map[int]string{0: headOf(m.pack, i+1, len(pages)), 1: strings.Repeat("=", 72), 39: footOf(strings.Join(l[:39], "\n") + "\n")}
		for _, line := range []int{0, 1, 39} {
			if l[line] != due[line] {
				return found{page: i, line: line, errno: api.ErrSheetHead}
			}
		}
	}
	s := &scan{model: m, places: places, in: cells{}}
	if s.all(); s.errno == api.OK {
		s.end(len(pages))
	}
	if s.errno == api.OK {
		return found{in: s.in}
	}
	return found{page: s.page, line: s.line, errno: s.errno}
}

// wide: a text of which each byte is a rune.
func wide(s string) string {
	l := make([]rune, len(s))
	for i := range l {
		l[i] = rune(s[i])
	}
	return string(l)
}

var patterns sync.Map

// compiled: a pattern, compiled once.
func compiled(pattern string) *regexp.Regexp {
	x, ok := patterns.Load(pattern)
	if !ok {
		x, _ = patterns.LoadOrStore(pattern, regexp.MustCompile(pattern))
	}
	return x.(*regexp.Regexp)
}

// scan: the entries that are due, up to the first fault.
type scan struct {
	*model
	places     []string
	at         int // the place
	in         cells
	page, line int
	errno      api.Errno
}

// cut tells what a pattern cuts out of the next place; nil, if there is a fault, ahead of it or here.
func (s *scan) cut(pattern string) []string {
	switch {
	case s.errno != api.OK:
		return nil
	case s.at == len(s.places):
		s.page, s.line, s.errno = len(s.places)/37-1, 39, api.ErrSheetSize
		return nil
	}
	l := compiled(pattern).FindStringSubmatch(wide(s.places[s.at]))
	if s.at++; l == nil {
		s.fault(api.ErrSheetLine)
	}
	return l
}

// fault notes a fault at the last place that was cut.
func (s *scan) fault(errno api.Errno) {
	s.page, s.line, s.errno = (s.at-1)/37, 2+(s.at-1)%37, errno
}

func (s *scan) all() {
	s.lines(-1, 0, "")
	used := make([][]int, len(s.pack.Groups))
	for group := range s.pack.Groups {
		used[group] = s.group(group)
	}
	for i, c := range s.pack.Checks {
		if c.Group == -1 {
			s.value("! ", c.Name, -1, 0, s.check(i, 0))
		}
	}
	for i, c := range s.pack.Checks {
		if c.Group == -1 {
			continue
		}
		for _, row := range used[c.Group] {
			s.value("! ", fmt.Sprintf("%s.%d", c.Name, row+1), -1, row, s.check(i, row))
		}
	}
}

func (s *scan) group(group int) (used []int) {
	g := s.pack.Groups[group]
	l := s.cut(`^\[([^\x20\]]{1,12})\] ([0-9]) of ([0-9]) *$`)
	if l == nil {
		return nil
	}
	many := int(l[2][0] - '0')
	if l[1] != g.Name || l[3] != fmt.Sprint(g.Rows) || many > g.Rows {
		s.fault(api.ErrSheetName)
		return nil
	}
	last := 0
	for range many {
		l := s.cut(`^  ([^\x20]{1,12}) row ([0-9]): *$`)
		if l == nil {
			return used
		}
		n := int(l[2][0] - '0')
		if l[1] != g.Name || n <= last || n > g.Rows {
			s.fault(api.ErrSheetName)
			return used
		}
		last = n
		used = append(used, n-1)
		s.in[s.flag(group, n-1)] = yes
		s.lines(group, n-1, "  ")
	}
	return used
}

func (s *scan) lines(group, row int, indent string) {
	for i, x := range s.pack.Lines {
		if x.Group == group {
			s.value(map[bool]string{true: "> ", false: "  "}[x.Input]+indent, x.Name, i, row, s.cell(i, row))
		}
	}
}

// value: the value entry of a line, or of a check (line -1).
func (s *scan) value(lead, name string, line, row int, cell uint32) {
	l := s.cut(`^` + regexp.QuoteMeta(lead) + `([^\x20]{1,14}) \.+ ([^\x20]+)$`)
	if l == nil {
		return
	}
	if l[1] != name {
		s.fault(api.ErrSheetName)
		return
	}
	v, ok := s.told(line, l[2])
	if !ok {
		s.fault(api.ErrSheetValue)
		return
	}
	if line >= 0 && s.pack.Lines[line].Input && v != blank {
		s.in[cell] = v
	}
}

// told: the value that a text tells, which may stand in a line, or in a check (line -1).
func (s *scan) told(line int, text string) (api.Value, bool) {
	kind, input, options := api.Flag, false, []string(nil)
	if line >= 0 {
		x := s.pack.Lines[line]
		if kind, input = x.Type, x.Input; kind == api.Choice {
			options = s.pack.Options[x.Options].Names
		}
	}
	if text == "-" {
		return blank, true
	}
	if n := slices.Index([]string{"", "#over", "#zero", "#needed", "#range", "#wrong"}, text); n > 0 {
		return fault(int64(n)), !input
	}
	switch kind {
	case api.Cents:
		return bounded(kind, api.MaxCents, text, `^-?(0|[1-9][0-9]*)\.[0-9][0-9]$`)
	case api.Count:
		return bounded(kind, api.MaxCount, text, `^-?(0|[1-9][0-9]*)$`)
	case api.Flag:
		n := slices.Index([]string{"no", "yes"}, text)
		return val(kind, int64(n)), n >= 0
	case api.Day:
		d, err := time.Parse("2006-01-02", text)
		return date((d.Unix() - time.Date(1900, 1, 1, 0, 0, 0, 0, time.UTC).Unix()) / 86400), err == nil && len(text) == 10 && d.Year() >= 1900 && d.Year() <= 2199
	}
	n := slices.Index(options, strings.TrimPrefix(text, ":"))
	return option(int64(n)), n >= 0 && text[0] == ':'
}

func bounded(kind int, most int64, text, pattern string) (api.Value, bool) {
	n, ok := new(big.Int).SetString(strings.Replace(text, ".", "", 1), 10)
	if !ok || !compiled(pattern).MatchString(text) || n.CmpAbs(big.NewInt(most)) > 0 || n.Sign() == 0 && text[0] == '-' {
		return blank, false
	}
	x, _ := strconv.ParseInt(n.String(), 10, 64)
	return val(kind, x), true
}

// end: P18.8's last step.
func (s *scan) end(pages int) {
	needed := max(1, (s.at+36)/37)
	for s.at < len(s.places) {
		s.at++
		if strings.Trim(s.places[s.at-1], " ") != "" {
			s.fault(api.ErrSheetLine)
			return
		}
	}
	if pages > needed {
		s.page, s.line, s.errno = needed, 0, api.ErrSheetSize
	}
}
