package desk_test

import (
	"fmt"
	"slices"
	"strconv"
	"strings"

	"levy/api"
	"levy/days"
	"levy/words"
)

// Scripts by another hand: commands written as lines, lines read by patterns, replies told.

// writer writes commands as lines of a script.
type writer struct {
	pack api.Pack
	ok   bool
}

var plainWords = map[int]string{api.CmdUndo: "undo", api.CmdRedo: "redo", api.CmdAll: "all", api.CmdAudit: "audit", api.CmdSheet: "sheet", api.CmdNames: "branches", api.CmdCrash: "crash"}
var nameWords = map[int]string{api.CmdFork: "fork", api.CmdSwitch: "switch", api.CmdDelete: "delete", api.CmdMerge: "merge", api.CmdDiff: "diff"}
var placeWords = map[int]string{api.CmdClear: "clear", api.CmdQuery: "query", api.CmdExplain: "explain"}

func (w *writer) words(c api.Cmd) []string {
	var l []string
	switch c.Kind {
	case api.CmdUndo, api.CmdRedo, api.CmdAll, api.CmdAudit, api.CmdSheet, api.CmdNames, api.CmdCrash:
		l = []string{plainWords[c.Kind]}
	case api.CmdFork, api.CmdSwitch, api.CmdDelete, api.CmdMerge, api.CmdDiff:
		l = []string{nameWords[c.Kind], w.name(c.Name)}
	case api.CmdClear, api.CmdQuery, api.CmdExplain:
		l = []string{placeWords[c.Kind], w.place(c.Line, c.Row)}
	case api.CmdSet:
		l = []string{"set", w.place(c.Line, c.Row), w.value(c.Line, c.Val)}
	case api.CmdAdd:
		l = []string{"add", w.group(c.Line)}
	case api.CmdDrop:
		l = []string{"drop", w.group(c.Line), w.count(c.Row)}
	case api.CmdForget:
		l = []string{"forget", w.count(c.N)}
	case api.CmdArm:
		l = []string{"arm", w.count(c.N)}
	case api.CmdFail:
		if l = []string{"fail", w.count(c.N)}; c.Row != 0 {
			l = append(l, "after", w.count(c.Row))
		}
	case api.CmdReopen:
		l = []string{"reopen"}
		for _, n := range c.List {
			l = append(l, w.count(n))
		}
	case api.CmdAdvise:
		how := "least"
		if w.ok = w.ok && (c.N == 0 || c.N == 1) && len(c.List) > 0 && len(c.List) <= 6; c.N == 1 {
			how = "most"
		}
		l = []string{how, w.place(c.Line, c.Row), "by"}
		for i, line := range c.List {
			if i > 0 {
				l = append(l, ",")
			}
			l = append(l, w.line(line))
		}
	case api.CmdCurve:
		if len(c.List) != 3 || !slices.Contains([]string{"raw", "rate", "slope"}, c.Name) {
			w.ok = false
			return nil
		}
		l = []string{c.Name, w.place(c.List[0], c.List[1]), "by", w.place(c.Line, c.Row), "from", w.amount(c.Val), "step", w.amount(cent(int64(max(0, c.N)))), "points", w.count(c.List[2])}
		w.ok = w.ok && c.N >= 0
	default:
		w.ok = false
	}
	return l
}

func (w *writer) name(s string) string {
	_, _, e := words.Scan(s)
	w.ok = w.ok && e == api.OK && s != "" && s[0] >= 'a'
	return s
}

func (w *writer) count(n int) string {
	w.ok = w.ok && n >= 0 && n <= api.MaxCount
	return strconv.Itoa(n)
}

func (w *writer) amount(v api.Value) string {
	w.ok = w.ok && v.Kind == api.Cents && v.Num >= -api.MaxCents && v.Num <= api.MaxCents
	return words.Amount(v.Num)
}

func (w *writer) line(n int) string {
	if n < 0 || n >= len(w.pack.Lines) {
		w.ok = false
		return ""
	}
	return w.pack.Lines[n].Name
}

func (w *writer) group(n int) string {
	if n < 0 || n >= len(w.pack.Groups) {
		w.ok = false
		return ""
	}
	return w.pack.Groups[n].Name
}

func (w *writer) place(line, row int) string {
	name := w.line(line)
	if !w.ok {
		return name
	}
	if w.pack.Lines[line].Group < 0 {
		w.ok = row == 0
		return name
	}
	return name + " " + w.count(row)
}

func (w *writer) value(line int, v api.Value) string {
	if !w.ok || v.Kind != w.pack.Lines[line].Type {
		w.ok = false
		return ""
	}
	switch v.Kind {
	case api.Cents:
		return w.amount(v)
	case api.Count:
		w.ok = v.Num >= -api.MaxCount && v.Num <= api.MaxCount
		return strconv.FormatInt(v.Num, 10)
	}
	s := shownAs(w.pack, line, v)
	w.ok = s != "" && s[0] != '?'
	return s
}

// shownAs tells a value of a line (-1: of a flag or check) as P20.18 has it.
func shownAs(p api.Pack, line int, v api.Value) string {
	switch v.Kind {
	case api.Blank:
		return "blank"
	case api.Cents:
		return words.Amount(v.Num)
	case api.Count:
		return fmt.Sprint(v.Num)
	case api.Flag:
		if v.Num > 1 {
			return "?"
		}
		return []string{"no", "yes"}[v.Num]
	case api.Day:
		s, _ := days.Print(int(v.Num))
		return s
	case api.Choice:
		names := p.Options[p.Lines[line].Options].Names
		if v.Num >= int64(len(names)) {
			return "?"
		}
		return names[v.Num]
	}
	return []string{"fault over", "fault zero", "fault needed", "fault range", "fault wrong"}[v.Num-1]
}

// patterns: the table of P20.16, by first words; an item in brackets may stand or not.
var patterns = map[string]string{
	"set": "place value", "clear": "place", "add": "group", "drop": "group count", "undo": "", "redo": "", "forget": "count",
	"fork": "name", "switch": "name", "delete": "name", "merge": "name", "diff": "name", "query": "place", "explain": "place",
	"all": "", "audit": "", "sheet": "", "branches": "", "least": "place by lines", "most": "place by lines",
	"raw": "place by place from signed step amount points count", "rate": "place by place from signed step amount points count", "slope": "place by place from signed step amount points count",
	"crash": "", "arm": "count", "fail": "count after", "reopen": "counts",
}

// fault: what is wrong with a line, and where.
type fault struct {
	at int
	e  api.Errno
}

// faultOf tells P20.17: what Parse is to answer of a line; ok, if it takes it.
func faultOf(p api.Pack, text string) (fault, bool) {
	tokens, at, e := words.Scan(text)
	if e != api.OK {
		return fault{at, e}, false
	}
	n := len(tokens)
	many := 0
	for _, x := range tokens {
		if x.Kind == api.TokenEnd {
			many++
		}
	}
	if many != 1 {
		return fault{len(text), api.ErrRulesEnd}, false
	}
	m := &matcher{pack: p, tokens: tokens[:n-1], end: len(text)}
	m.match()
	if m.fault == nil {
		return fault{}, true
	}
	return *m.fault, false
}

// matcher holds tokens against a pattern's items.
type matcher struct {
	pack   api.Pack
	tokens []api.Token
	end    int
	line   int // the last one that was named
	fault  *fault
}

// next takes a token for which ok tells 0, or the error that it is.
func (m *matcher) next(ok func(x api.Token) api.Errno) {
	if m.fault != nil {
		return
	}
	if len(m.tokens) == 0 {
		m.fault = &fault{m.end, api.ErrRulesEnd}
		return
	}
	if e := ok(m.tokens[0]); e != 0 {
		m.fault = &fault{m.tokens[0].At, e}
		return
	}
	m.tokens = m.tokens[1:]
}

func ofKind(kind int, texts ...string) func(api.Token) api.Errno {
	return func(x api.Token) api.Errno {
		if x.Kind != kind || len(texts) > 0 && !slices.Contains(texts, x.Text) {
			return api.ErrRulesToken
		}
		return 0
	}
}

// among takes a name of a list, and tells which.
func (m *matcher) among(names []string) (at int) {
	m.next(func(x api.Token) api.Errno {
		if x.Kind != api.TokenName {
			return api.ErrRulesToken
		}
		if at = slices.Index(names, x.Text); at < 0 {
			return api.ErrRulesName
		}
		return 0
	})
	return at
}

func (m *matcher) lineNames() (l []string) {
	for _, x := range m.pack.Lines {
		l = append(l, x.Name)
	}
	return l
}

func (m *matcher) groupNames() (l []string) {
	for _, x := range m.pack.Groups {
		l = append(l, x.Name)
	}
	return l
}

// here tells whether the next token is this one.
func (m *matcher) here(kind int, text string) bool {
	return m.fault == nil && len(m.tokens) > 0 && m.tokens[0].Kind == kind && m.tokens[0].Text == text
}

func (m *matcher) match() {
	first := ""
	m.next(func(x api.Token) api.Errno {
		first = x.Text
		if _, ok := patterns[first]; !ok || x.Kind != api.TokenName {
			return api.ErrRulesToken
		}
		return 0
	})
	for _, item := range strings.Fields(patterns[first]) {
		m.item(item)
	}
	if m.fault == nil && len(m.tokens) > 0 {
		m.fault = &fault{m.tokens[0].At, api.ErrRulesToken}
	}
}

func (m *matcher) item(item string) {
	switch item {
	case "place":
		if m.line = m.among(m.lineNames()); m.fault == nil && m.pack.Lines[m.line].Group >= 0 {
			m.item("count")
		}
	case "value":
		if m.fault == nil {
			m.value(m.pack.Lines[m.line])
		}
	case "group":
		m.among(m.groupNames())
	case "name":
		m.next(ofKind(api.TokenName))
	case "count":
		m.next(ofKind(api.TokenCount))
	case "signed", "amount":
		if item == "signed" && m.here(api.TokenSign, "-") {
			m.next(ofKind(api.TokenSign))
		}
		m.next(ofKind(api.TokenAmount))
	case "lines":
		m.among(m.lineNames())
		for n := 1; n < 6 && m.here(api.TokenSign, ","); n++ {
			m.next(ofKind(api.TokenSign))
			m.among(m.lineNames())
		}
	case "counts":
		for n := 0; n < 6 && m.fault == nil && len(m.tokens) > 0; n++ {
			m.item("count")
		}
	case "after":
		if m.here(api.TokenName, "after") {
			m.next(ofKind(api.TokenName))
			m.item("count")
		}
	default:
		m.next(ofKind(api.TokenName, item))
	}
}

func (m *matcher) value(l api.Line) {
	switch l.Type {
	case api.Cents, api.Count:
		if m.here(api.TokenSign, "-") {
			m.next(ofKind(api.TokenSign))
		}
		m.next(ofKind(map[int]int{api.Cents: api.TokenAmount, api.Count: api.TokenCount}[l.Type]))
	case api.Flag:
		m.next(ofKind(api.TokenName, "yes", "no"))
	case api.Day:
		m.next(ofKind(api.TokenDate))
	case api.Choice:
		m.among(m.pack.Options[l.Options].Names)
	}
}
