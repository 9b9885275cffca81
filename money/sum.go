package money

import (
	"iter"
	"math/bits"

	"levy/api"
)

// tally is a sum of one kind on its way. The number is in two's complement over two words: more than 900,000 of the
// greatest amounts outgrow one, and a sum may come back from beyond any bound.
type tally struct {
	kind      int
	high, low uint64
	fault     api.Value // Blank: none yet
}

// Sum tells the exact sum of what l gives, of that kind, checked once; blanks are left out.
func Sum(kind int, l iter.Seq[api.Value]) api.Value {
	if !takes(kind, toAdd) {
		return fault(api.Wrong)
	}
	t := tally{kind: kind}
	if l != nil {
		t.gather(l)
	}
	return t.result()
}

// gather leaves l at the first fault. An iterator that panics, or that goes on when it is left, must not make Sum panic:
// what was found ahead of that stays, and where nothing was, there is no sum to tell.
func (t *tally) gather(l iter.Seq[api.Value]) {
	defer func() {
		if recover() != nil && t.fault.Kind == api.Blank {
			t.fault = fault(api.Wrong)
		}
	}()
	for v := range l {
		t.take(v)
		if t.fault.Kind != api.Blank {
			break
		}
	}
}

func (t *tally) take(v api.Value) {
	switch {
	case !Valid(v):
		t.fault = fault(api.Wrong)
	case v.Kind == api.Blank:
	case v.Kind == api.Fault:
		t.fault = v
	case v.Kind != t.kind:
		t.fault = fault(api.Wrong)
	default:
		t.add(v.Num)
	}
}

func (t *tally) add(n int64) {
	low, carry := bits.Add64(t.low, uint64(n), 0)
	high, _ := bits.Add64(t.high, uint64(n>>63), carry)
	t.low, t.high = low, high
}

func (t *tally) result() api.Value {
	if t.fault.Kind != api.Blank {
		return t.fault
	}
	n := int64(t.low)
	return fitting(t.kind, n, t.high == uint64(n>>63))
}
