package desk

import (
	"strconv"

	"levy/api"
	"levy/days"
	"levy/words"
)

// cellText tells the name of a cell, and its row.
func (f *form) cellText(cell uint32) string {
	place, _ := f.graph.Place(int(cell))
	return f.placeText(place)
}

// placeText tells the name of a place, and its row.
func (f *form) placeText(place api.Place) string {
	name, group := "", place.Index
	switch place.Kind {
	case api.PlaceLine:
		line := f.pack.Lines[place.Index]
		name, group = line.Name, line.Group
	case api.PlaceCheck:
		check := f.pack.Checks[place.Index]
		name, group = check.Name, check.Group
	default:
		name = f.pack.Groups[place.Index].Name
	}
	if group < 0 {
		return name
	}
	return name + " " + strconv.Itoa(place.Row)
}

// valueText tells a cell's value.
func (f *form) valueText(cell uint32, v api.Value) string {
	place, _ := f.graph.Place(int(cell))
	return f.placeValueText(place, v)
}

// placeValueText tells the value of a place.
func (f *form) placeValueText(place api.Place, v api.Value) string {
	switch v.Kind {
	case api.Cents:
		return words.Amount(v.Num)
	case api.Count:
		return strconv.FormatInt(v.Num, 10)
	case api.Flag:
		return truthText(v.Num)
	case api.Day:
		text, _ := days.Print(int(v.Num))
		return text
	case api.Choice:
		return f.optionText(place, v.Num)
	case api.Fault:
		return "fault " + faultText(v.Num)
	}
	return "blank"
}

func truthText(n int64) string {
	if n == 0 {
		return "no"
	}
	return "yes"
}

// optionText tells an option's name, by the options' table of the line that stands there.
func (f *form) optionText(place api.Place, n int64) string {
	if place.Kind == api.PlaceLine {
		table := f.pack.Lines[place.Index].Options
		if table >= 0 && n < int64(len(f.pack.Options[table].Names)) {
			return f.pack.Options[table].Names[n]
		}
	}
	return strconv.FormatInt(n, 10)
}

func faultText(n int64) string {
	switch n {
	case api.Over:
		return "over"
	case api.Zero:
		return "zero"
	case api.Needed:
		return "needed"
	case api.Range:
		return "range"
	}
	return "wrong"
}
