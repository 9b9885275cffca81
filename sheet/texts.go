package sheet

import (
	"strconv"
	"strings"

	"levy/api"
	"levy/days"
	"levy/words"
)

// dictionary: the values that are written by a word, both ways.
type dictionary struct {
	words  map[api.Value]word
	values map[string]api.Value
}

type word struct{ text string }

// numeral: how the numbers of a kind are written, and read. What read takes need not be what write would write.
type numeral struct {
	write func(n int64) string
	read  func(text string) (int64, bool)
}

// dictionaries makes one for each options' table, by its number, and one without options, by -1.
func dictionaries(p api.Pack) map[int]dictionary {
	all := map[int]dictionary{-1: dictionaryOf(nil)}
	for i, o := range p.Options {
		all[i] = dictionaryOf(o.Names)
	}
	return all
}

func dictionaryOf(options []string) dictionary {
	d := dictionary{words: plainWords(), values: map[string]api.Value{}}
	for i, name := range options {
		d.words[api.Value{Kind: api.Choice, Num: int64(i)}] = word{":" + name}
	}
	for v, w := range d.words {
		d.values[w.text] = v
	}
	return d
}

// plainWords makes the words that stand in every dictionary.
func plainWords() map[api.Value]word {
	return map[api.Value]word{
		{Kind: api.Blank}:                  {"-"},
		{Kind: api.Flag, Num: 0}:           {"no"},
		{Kind: api.Flag, Num: 1}:           {"yes"},
		{Kind: api.Fault, Num: api.Over}:   {"#over"},
		{Kind: api.Fault, Num: api.Zero}:   {"#zero"},
		{Kind: api.Fault, Num: api.Needed}: {"#needed"},
		{Kind: api.Fault, Num: api.Range}:  {"#range"},
		{Kind: api.Fault, Num: api.Wrong}:  {"#wrong"},
	}
}

func numerals() map[int]numeral {
	return map[int]numeral{
		api.Cents: {words.Amount, readAmount},
		api.Count: {writeCount, readCount},
		api.Day:   {writeDay, readDay},
	}
}

func readAmount(text string) (int64, bool) { return readCount(strings.Replace(text, ".", "", 1)) }

func writeCount(n int64) string { return strconv.FormatInt(n, 10) }

func readCount(text string) (int64, bool) {
	n, err := strconv.ParseInt(text, 10, 64)
	return n, err == nil
}

func writeDay(n int64) string {
	text, _ := days.Print(int(n))
	return text
}

func readDay(text string) (int64, bool) {
	n, _, errno := days.Parse(text)
	return int64(n), errno == api.OK
}

// kindOf tells the kind of a place's values, and the options' table by which they are written.
func (y *layout) kindOf(place api.Place) (kind, table int) {
	if place.Kind == api.PlaceCheck {
		return api.Flag, -1
	}
	l := y.pack.Lines[place.Index]
	return l.Type, l.Options
}

// text tells how a value is written that may stand at a place.
func (y *layout) text(place api.Place, v api.Value) string {
	_, table := y.kindOf(place)
	if w, ok := y.words[table].words[v]; ok {
		return w.text
	}
	if n, ok := y.numerals[v.Kind]; ok {
		return n.write(v.Num)
	}
	return ""
}

// value tells the value that may stand at a place and is written just so; false: there is none.
func (y *layout) value(place api.Place, text string) (api.Value, bool) {
	kind, table := y.kindOf(place)
	v, ok := y.words[table].values[text]
	if !ok {
		v, ok = y.number(kind, text)
	}
	if !ok || !y.allows(place, v) {
		return api.Value{}, false
	}
	return v, true
}

// number tells the value of a kind that is written by its number just so.
func (y *layout) number(kind int, text string) (api.Value, bool) {
	by, ok := y.numerals[kind]
	if !ok {
		return api.Value{}, false
	}
	n, ok := by.read(text)
	if !ok || by.write(n) != text {
		return api.Value{}, false
	}
	return api.Value{Kind: kind, Num: n}, true
}
