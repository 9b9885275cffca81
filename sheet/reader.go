package sheet

import (
	"strings"

	"levy/api"
	"levy/trie"
)

// reader: what stands at the places of pages, and what was read of it so far.
type reader struct {
	*layout
	places []string
	used   usage
	in     *trie.Map
}

// read takes the entries that are due, one by one, and tells the first fault.
func (r *reader) read() fault {
	var f fault
	at := 0
reading:
	for e := range r.entries(&r.used) {
		switch f = r.take(e, at); f.errno {
		case api.OK:
			at++
		default:
			break reading
		}
	}
	if f.errno != api.OK {
		return f
	}
	return r.behind(at)
}

// behind tells what is wrong behind the last entry: all places there are blank, and no page is one too many.
func (r *reader) behind(last int) fault {
	for at := last; at < len(r.places); at++ {
		if r.places[at] != padded("") {
			return faultAt(at, api.ErrSheetLine)
		}
	}
	needed := (last + placesAPage - 1) / placesAPage
	if needed*placesAPage < len(r.places) {
		return fault{page: needed, errno: api.ErrSheetSize}
	}
	return fault{}
}

// take reads the entry that is due at a place.
func (r *reader) take(e entry, at int) fault {
	if at == len(r.places) {
		return fault{at/placesAPage - 1, footLine, api.ErrSheetSize}
	}
	errno := api.OK
	switch e.kind {
	case groupEntry:
		errno = r.takeGroup(e.group, r.places[at])
	case rowEntry:
		errno = r.takeRow(e.group, r.places[at])
	case valueEntry:
		errno = r.takeValue(e.place, r.places[at])
	}
	if errno != api.OK {
		return faultAt(at, errno)
	}
	return fault{}
}

func (r *reader) takeGroup(group int, line string) api.Errno {
	name, used, rows, ok := cutGroup(line)
	g := r.pack.Groups[group]
	switch {
	case !ok:
		return api.ErrSheetLine
	case name != g.Name || rows != g.Rows || used > rows:
		return api.ErrSheetName
	}
	r.used.many[group] = used
	return api.OK
}

func (r *reader) takeRow(group int, line string) api.Errno {
	name, number, ok := cutRow(line)
	g, row, least := r.pack.Groups[group], number-1, 0
	if l := r.used.rows[group]; len(l) > 0 {
		least = l[len(l)-1] + 1
	}
	switch {
	case !ok:
		return api.ErrSheetLine
	case name != g.Name || row < least || row >= g.Rows:
		return api.ErrSheetName
	}
	r.used.rows[group] = append(r.used.rows[group], row)
	r.in = r.in.Put(r.flag(group, row), api.Value{Kind: api.Flag, Num: 1})
	return api.OK
}

func (r *reader) takeValue(place api.Place, line string) api.Errno {
	name, text, ok := cutValue(line, r.lead(place))
	switch {
	case !ok:
		return api.ErrSheetLine
	case name != r.name(place):
		return api.ErrSheetName
	}
	v, ok := r.value(place, text)
	if !ok {
		return api.ErrSheetValue
	}
	if r.isInput(place) && v.Kind != api.Blank {
		r.in = r.in.Put(r.cell(place), v)
	}
	return api.OK
}

// cutGroup cuts a group entry of any name and numbers: [name] 1 of 2
func cutGroup(line string) (name string, used, rows int, ok bool) {
	rest, opened := strings.CutPrefix(strings.TrimRight(line, " "), "[")
	name, rest, closed := strings.Cut(rest, "]")
	if !opened || !closed || !isName(name, api.MaxName) || len(rest) != len(" 1 of 2") {
		return "", 0, 0, false
	}
	used, isUsed := digit(rest[1])
	rows, isRows := digit(rest[6])
	if !isUsed || !isRows || rest[0] != ' ' || rest[2:6] != " of " {
		return "", 0, 0, false
	}
	return name, used, rows, true
}

// cutRow cuts a row entry of any name and number:   name row 1:
func cutRow(line string) (name string, number int, ok bool) {
	rest, indented := strings.CutPrefix(strings.TrimRight(line, " "), "  ")
	name, rest, parted := strings.Cut(rest, " ")
	if !indented || !parted || !isName(name, api.MaxName) || len(rest) != len("row 1:") {
		return "", 0, false
	}
	number, isNumber := digit(rest[4])
	if !isNumber || rest[:4] != "row " || rest[5] != ':' {
		return "", 0, false
	}
	return name, number, true
}

// cutValue cuts a value entry of any name and text behind what leads it: name ..... text
func cutValue(line, lead string) (name, text string, ok bool) {
	rest, led := strings.CutPrefix(line, lead)
	parts := strings.Split(rest, " ")
	if !led || len(parts) != 3 {
		return "", "", false
	}
	name, points, text := parts[0], parts[1], parts[2]
	if !isName(name, api.MaxName+len(".1")) || points == "" || strings.Trim(points, ".") != "" || text == "" {
		return "", "", false
	}
	return name, text, true
}

// isName tells whether something may stand where a name is wanted, whatever its bytes are.
func isName(text string, most int) bool {
	return text != "" && len(text) <= most && !strings.Contains(text, " ")
}

func digit(b byte) (int, bool) {
	return int(b) - '0', b >= '0' && b <= '9'
}
