package desk

import (
	"errors"

	"levy/api"
)

func crash(d *Desk, _ api.Cmd) api.Reply {
	d.disk.Crash()
	d.fall()
	return api.Reply{}
}

func arm(d *Desk, c api.Cmd) api.Reply {
	if c.N < 0 {
		return refusal(api.ErrDeskCmd)
	}
	d.disk.Arm(c.N)
	return api.Reply{}
}

func fail(d *Desk, c api.Cmd) api.Reply {
	if c.Row < 0 || c.N < 0 {
		return refusal(api.ErrDeskCmd)
	}
	d.disk.Fail(c.Row, c.N)
	return api.Reply{}
}

func reopen(d *Desk, c api.Cmd) api.Reply {
	if d.fallen {
		d.disk.Restart(c.List)
	}
	errno := d.wake()
	if errno == api.OK || errors.Is(errno, api.ErrDrawerOther) {
		return refusal(errno)
	}
	return refusal(unsaved(errno))
}
