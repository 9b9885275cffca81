package trace

import (
	"levy/api"
	"levy/money"
)

// thing: a value or a place. What it is, its type tells; a number comes with each.
type thing interface {
	number() int64
}

type numbered int64

func (n numbered) number() int64 { return int64(n) }

// The values, by their kinds.
type (
	blank  struct{ numbered }
	amount struct{ numbered }
	count  struct{ numbered }
	truth  struct{ numbered }
	day    struct{ numbered }
	option struct {
		numbered
		name string // none: "option" and its number stand for it
	}
	mishap  struct{ numbered }
	invalid struct{ numbered }
)

// The places. The number of the first three is their row's as it is written, from 1 on; 0: they stand in no row.
type (
	line struct {
		numbered
		name string
	}
	used struct {
		numbered
		name string
	}
	check struct {
		numbered
		name string
	}
	nowhere struct{ numbered } // the number that no cell has
)

// value tells which thing a value is that stands at a cell.
func (c cells) value(cell uint32, v api.Value) thing {
	n := numbered(v.Num)
	if !money.Valid(v) {
		return invalid{n}
	}
	switch v.Kind {
	case api.Cents:
		return amount{n}
	case api.Count:
		return count{n}
	case api.Flag:
		return truth{n}
	case api.Day:
		return day{n}
	case api.Choice:
		return option{n, c.option(cell, v.Num)}
	case api.Fault:
		return mishap{n}
	}
	return blank{n}
}

// thing tells which thing a cell is.
func (c cells) thing(cell uint32) thing {
	place, _ := c.place(cell)
	switch place.Kind {
	case api.PlaceLine:
		l := c.pack.Lines[place.Index]
		return line{rowOf(l.Group, place.Row), l.Name}
	case api.PlaceFlag:
		return used{rowOf(place.Index, place.Row), c.pack.Groups[place.Index].Name}
	case api.PlaceCheck:
		k := c.pack.Checks[place.Index]
		return check{rowOf(k.Group, place.Row), k.Name}
	}
	return nowhere{numbered(cell)}
}

func rowOf(group, row int) numbered {
	if group == -1 {
		return 0
	}
	return numbered(row + 1)
}
