package money

import "levy/api"

// What a call may do with a value, a bit each: the table below says for each kind which of these it bears.
const (
	toAdd   = 1 << iota // Add, Sub, Neg, Abs, Sum
	toOrder             // Min, Max, Clamp, Compare by OpLt, OpLe, OpGt, OpGe
	toMatch             // Compare by OpEq, OpNe
	toShare             // Scale, Round, Bracket, what Times and Split begin with
	toCount             // by what Times multiplies and Split divides
)

var kinds = [...]struct {
	low, high int64
	uses      int
}{
	api.Blank:  {0, 0, 0},
	api.Cents:  {-api.MaxCents, api.MaxCents, toAdd | toOrder | toMatch | toShare},
	api.Count:  {-api.MaxCount, api.MaxCount, toAdd | toOrder | toMatch | toCount},
	api.Flag:   {0, 1, toMatch},
	api.Day:    {0, api.MaxDay, toOrder | toMatch},
	api.Choice: {0, api.MaxOptions - 1, toMatch},
	api.Fault:  {api.Over, api.Wrong, 0},
}

// Valid tells whether v is a value within the bounds.
func Valid(v api.Value) bool {
	return known(v.Kind) && within(v.Num, kinds[v.Kind].low, kinds[v.Kind].high)
}

func known(kind int) bool { return 0 <= kind && kind < len(kinds) }

func within(n, low, high int64) bool { return low <= n && n <= high }

func takes(kind, use int) bool { return known(kind) && kinds[kind].uses&use != 0 }

func fault(which int64) api.Value { return api.Value{Kind: api.Fault, Num: which} }

// fitting makes a value of a result; near says that the result is n at all (false: it is too far out for an int64).
func fitting(kind int, n int64, near bool) api.Value {
	v := api.Value{Kind: kind, Num: n}
	if !near || !Valid(v) {
		return fault(api.Over)
	}
	return v
}

func flag(is bool) api.Value {
	if is {
		return api.Value{Kind: api.Flag, Num: 1}
	}
	return api.Value{Kind: api.Flag, Num: 0}
}

// mishap tells the fault that the operands make by themselves. The kinds are no concern of it: whatever a call takes,
// a fault or a blank of a later operand goes ahead of a wrong kind of an earlier one.
func mishap(operands ...api.Value) (api.Value, bool) {
	for _, v := range operands {
		switch {
		case !Valid(v):
			return fault(api.Wrong), true
		case v.Kind == api.Fault:
			return v, true
		case v.Kind == api.Blank:
			return fault(api.Needed), true
		}
	}
	return api.Value{}, false
}

// refusal tells the fault of operands that must be of one kind, one that bears the use.
func refusal(use int, first api.Value, others ...api.Value) (api.Value, bool) {
	if v, is := mishap(first); is {
		return v, true
	}
	if v, is := mishap(others...); is {
		return v, true
	}
	if !takes(first.Kind, use) {
		return fault(api.Wrong), true
	}
	for _, v := range others {
		if v.Kind != first.Kind {
			return fault(api.Wrong), true
		}
	}
	return api.Value{}, false
}

// refusalOfPair tells the fault of an amount and a number, which differ in kind.
func refusalOfPair(amount, number api.Value) (api.Value, bool) {
	if v, is := mishap(amount, number); is {
		return v, true
	}
	if !takes(amount.Kind, toShare) || !takes(number.Kind, toCount) {
		return fault(api.Wrong), true
	}
	return api.Value{}, false
}
