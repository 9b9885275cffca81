package sheet

import (
	"strconv"
	"strings"

	"levy/api"
	"levy/trie"
)

// print tells the lines of all entries, over inputs that fit and values that may stand there.
func (y *layout) print(in *trie.Map, vals []api.Value) []string {
	var lines []string
	used := y.usageOf(in)
	for e := range y.entries(used) {
		switch e.kind {
		case groupEntry:
			lines = append(lines, y.groupLine(e.group, used.many[e.group]))
		case rowEntry:
			lines = append(lines, y.rowLine(e.group, used.rows[e.group][e.turn]))
		case valueEntry:
			lines = append(lines, y.valueLine(e.place, y.held(in, vals, e.place)))
		}
	}
	return lines
}

// usageOf tells which rows are used, by the flags.
func (y *layout) usageOf(in *trie.Map) *usage {
	u := &usage{}
	for group, x := range y.pack.Groups {
		for row := range x.Rows {
			if _, ok := in.Get(y.flag(group, row)); ok {
				u.many[group]++
				u.rows[group] = append(u.rows[group], row)
			}
		}
	}
	return u
}

// held tells what a place holds.
func (y *layout) held(in *trie.Map, vals []api.Value, place api.Place) api.Value {
	cell := y.cell(place)
	if y.isInput(place) {
		v, _ := in.Get(cell)
		return v
	}
	return vals[cell]
}

func (y *layout) groupLine(group, used int) string {
	g := y.pack.Groups[group]
	return padded("[" + g.Name + "] " + strconv.Itoa(used) + " of " + strconv.Itoa(g.Rows))
}

func (y *layout) rowLine(group, row int) string {
	return padded("  " + y.pack.Groups[group].Name + " row " + strconv.Itoa(row+1) + ":")
}

func (y *layout) valueLine(place api.Place, v api.Value) string {
	left, right := y.lead(place)+y.name(place)+" ", " "+y.text(place, v)
	return left + strings.Repeat(".", api.PageWidth-len(left)-len(right)) + right
}
