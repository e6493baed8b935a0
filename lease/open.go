package lease

import "pennant/api"

func within(n, least, most int) bool { return n >= least && n <= most }

func isDevice(n int) bool { return within(n, 1, maxDevice) }

func isMoment(n int) bool { return within(n, 0, api.MaxTime) }

func isLife(n int) bool { return within(n, 1, api.MaxLife) }

func isOpen(l api.Lease) bool { return l.Until > 0 }

// next is the number of the next lease.
func (t *Table) next() int { return len(t.leases) + 1 }

// mayBeNext tells whether a lease, open or ended, may come behind those that are there.
func (t *Table) mayBeNext(l api.Lease) bool {
	if l.Number != t.next() || !isDevice(l.Device) || !within(l.Until, 0, maxUntil) {
		return false
	}
	_, has := t.open[l.Device]
	return !has || !isOpen(l)
}

func (t *Table) add(l api.Lease) {
	t.leases = append(t.leases, l)
	if isOpen(l) {
		t.open[l.Device] = l.Number
	}
}

// openAt is the open lease of a number.
func (t *Table) openAt(number int) (api.Lease, api.Errno) {
	if l, e := t.At(number); e != api.OK || isOpen(l) {
		return l, e
	}
	return api.Lease{}, api.ErrNone
}

// end ends a lease that is open.
func (t *Table) end(l api.Lease) {
	t.leases[l.Number-1].Until = 0
	delete(t.open, l.Device)
}
