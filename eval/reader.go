package eval

import (
	"levy/api"
	"levy/money"
)

// reader tells what a cell counts as where it is read.
type reader func(cell uint32) api.Value

// holding reads from a list by cell. What it tells is taken as it is, since cells hold valid values.
func holding(held []api.Value) reader {
	return func(cell uint32) api.Value { return held[cell] }
}

// remembering asks read for each cell once, at most, and adds what it was told to a list, in the order of first reading.
func remembering(read reader, reads *[]api.Read) reader {
	seen := map[uint32]api.Value{}
	return func(cell uint32) api.Value {
		x, ok := seen[cell]
		if !ok {
			x = counted(read(cell))
			seen[cell] = x
			*reads = append(*reads, api.Read{Cell: cell, Seen: x})
		}
		return x
	}
}

// counted tells what a value counts as that comes from outside.
func counted(x api.Value) api.Value {
	if !money.Valid(x) {
		return fault(api.Wrong)
	}
	return x
}
