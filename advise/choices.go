package advise

import (
	"iter"
	"slices"

	"levy/api"
)

// choice: a cell that is to be filled, by one of so many values of a kind, from 0 on.
type choice struct {
	cell    uint32
	kind    int
	options int64
}

// tooMany tells whether some choices have more ways than may be tried.
func tooMany(choices []choice) bool {
	ways := int64(1)
	for _, c := range choices {
		ways *= c.options
		if ways > api.MaxTries { // here: the product of all of them may be beyond every number
			return true
		}
	}
	return false
}

// counted gives the lists of picks, one a choice, in counting order. Each list is its own.
func counted(choices []choice) iter.Seq[[]api.Value] {
	return func(yield func([]api.Value) bool) {
		picks := make([]api.Value, len(choices))
		for i, c := range choices {
			picks[i].Kind = c.kind
		}
		for yield(slices.Clone(picks)) && advance(picks, choices) {
		}
	}
}

// advance makes picks the next ones, and tells whether there are any.
func advance(picks []api.Value, choices []choice) bool {
	for i := len(picks) - 1; i >= 0; i-- {
		picks[i].Num++
		if picks[i].Num < choices[i].options {
			return true
		}
		picks[i].Num = 0
	}
	return false
}
