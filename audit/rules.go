package audit

import "levy/api"

// rule: what is looked for, and where.
type rule struct {
	number int
	hard   bool
	asks   func(c cell) bool      // whether it looks at a cell
	finds  func(v api.Value) bool // whether a cell that counts and holds v is what it looks for
}

// hardRules tells the rules that keep a return from being filed, in the order in which they are asked.
func hardRules() []rule {
	return []rule{
		{api.RuleCheck, true, isHardCheck, isTrue},
		{api.RuleUnsure, true, isHardCheck, isUntold},
		{api.RuleMissing, true, mustBeThere, isBlank},
		{api.RuleFault, true, isLine, isFault},
	}
}

// softRules tells the others, which are asked behind them.
func softRules() []rule {
	return []rule{
		{api.RuleCheck, false, isSoftCheck, isTrue},
		{api.RuleUnsure, false, isSoftCheck, isUntold},
	}
}

func isHardCheck(c cell) bool { return c.place.Kind == api.PlaceCheck && c.strict }

func isSoftCheck(c cell) bool { return c.place.Kind == api.PlaceCheck && !c.strict }

func mustBeThere(c cell) bool { return isLine(c) && c.strict }

func isLine(c cell) bool { return c.place.Kind == api.PlaceLine }

func isTrue(v api.Value) bool { return v == api.Value{Kind: api.Flag, Num: 1} }

func isUntold(v api.Value) bool { return !isTrue(v) && v != api.Value{Kind: api.Flag} }

func isBlank(v api.Value) bool { return v.Kind == api.Blank }

func isFault(v api.Value) bool { return v.Kind == api.Fault }
