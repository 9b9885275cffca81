package drawer

// rigs: the faults that are set; none in the zero value.
type rigs struct {
	armed        bool
	units        int // how many are left till the machine falls, if it is armed
	after, calls int // how many calls go on, and how many fail then; none, if calls is 0
}

func (r *rigs) arm(units int) {
	r.armed, r.units = units >= 0, max(units, 0)
}

func (r *rigs) fail(after, calls int) {
	if after < 0 || calls <= 0 {
		after, calls = 0, 0
	}
	r.after, r.calls = after, calls
}

// strike tells whether this call is one that fails.
func (r *rigs) strike() bool {
	switch {
	case r.calls == 0:
		return false
	case r.after > 0:
		r.after--
		return false
	}
	r.calls--
	return true
}

// pay takes what a call costs, and tells how many units there were for it.
func (r *rigs) pay(cost int) int {
	if !r.armed {
		return cost
	}
	paid := min(cost, r.units)
	r.units -= paid
	return paid
}
