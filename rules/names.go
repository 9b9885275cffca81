package rules

import "levy/api"

// names: the numbers of what may be named; of names that stand twice the first one counts.
type names struct {
	options, tables, groups, lines map[string]int
	choices                        []map[string]int // by options' table
}

func namesOf(p api.Pack) names {
	n := names{
		options: numbered(p.Options, func(o api.Options) string { return o.Name }),
		tables:  numbered(p.Tables, func(t api.Table) string { return t.Name }),
		groups:  numbered(p.Groups, func(g api.Group) string { return g.Name }),
		lines:   numbered(p.Lines, func(l api.Line) string { return l.Name }),
	}
	for _, o := range p.Options {
		n.choices = append(n.choices, numbered(o.Names, func(s string) string { return s }))
	}
	return n
}

func numbered[T any](l []T, name func(T) string) map[string]int {
	numbers := make(map[string]int)
	for i, x := range l {
		if _, ok := numbers[name(x)]; !ok {
			numbers[name(x)] = i
		}
	}
	return numbers
}

// gathered tells the names of a text's items, as a pack that has nothing else: an expression may name what stands below it.
func gathered(tokens []api.Token) api.Pack {
	var p api.Pack
	begin := 0
	for i, t := range tokens {
		if t.Kind == api.TokenEnd {
			gather(&p, tokens[begin:i])
			begin = i + 1
		}
	}
	return p
}

func gather(p *api.Pack, line []api.Token) {
	if len(line) < 2 || line[0].Kind != api.TokenName || !isName(line[1]) {
		return
	}
	name := line[1].Text
	switch line[0].Text {
	case "options":
		p.Options = append(p.Options, api.Options{Name: name, Names: gatheredOptions(line)})
	case "table":
		p.Tables = append(p.Tables, api.Table{Name: name})
	case "group":
		p.Groups = append(p.Groups, api.Group{Name: name})
	case "input", "line":
		p.Lines = append(p.Lines, api.Line{Name: name})
	}
}

func gatheredOptions(line []api.Token) []string {
	var l []string
	for i, t := range line[1:] {
		if ahead := line[i]; isName(t) && (is(ahead, ":") || is(ahead, ",")) {
			l = append(l, t.Text)
		}
	}
	return l
}

func isName(t api.Token) bool { return t.Kind == api.TokenName && !isWord(t.Text) }

func isWord(s string) bool {
	switch s {
	case "pack", "options", "table", "group", "input", "line", "check",
		"in", "must", "hard", "cents", "count", "flag", "day", "is", "at", "when",
		"if", "then", "else", "and", "or", "not", "yes", "no":
		return true
	}
	return false
}
