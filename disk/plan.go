package disk

import (
	"slices"

	"pennant/api"
)

// What becomes of a change; a number that is none of these is as done.
const (
	done = iota
	refused
	cutOff
)

// Plan says what becomes of the changes to come; Off tells whether the power is off.
func (d *Disk) Plan(l []byte) { d.plan = slices.Clone(l) }

func (d *Disk) Off() bool { return d.off }

// meet is the error that a change meets; without one it is to be done.
func (d *Disk) meet() api.Errno {
	if d.off {
		return api.ErrOff
	}
	switch d.next() {
	case refused:
		return api.ErrIo
	case cutOff:
		d.off = true
		return api.ErrOff
	}
	return api.OK
}

// next takes what becomes of a change off the plan.
func (d *Disk) next() byte {
	if len(d.plan) == 0 {
		return done
	}
	first := d.plan[0]
	d.plan = d.plan[1:]
	return first
}
