package types

import "levy/api"

// kind: what an expression is worth: one of the kinds of package api, and of choices their options' table, else -1. Alike expressions have equal ones.
type kind struct {
	base, options int
}

// Sets of kinds, a bit each, so that several can be asked for at once.
const (
	cents   = 1 << api.Cents
	counts  = 1 << api.Count
	flags   = 1 << api.Flag
	dates   = 1 << api.Day
	choices = 1 << api.Choice
	amounts = cents | counts
	ordered = amounts | dates
	every   = ordered | flags | choices
)

// in is asked of what isKind takes, so that the shift is sound.
func (k kind) in(set int) bool { return set&(1<<k.base) != 0 }

func plain(base int) kind { return kind{base, -1} }

// lineKind leaves out the options of a line that isn't one of choices: of a pack that isn't well formed any number may stand there.
func lineKind(l api.Line) kind {
	if l.Type == api.Choice {
		return kind{l.Type, l.Options}
	}
	return plain(l.Type)
}

func isKind(n int) bool { return api.Cents <= n && n <= api.Choice }
