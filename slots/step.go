package slots

import (
	"pennant/api"
	"pennant/flash"
)

// step is something that is done on a flash.
type step func() api.Errno

// inTurn does steps one by one, up to the first error.
func inTurn(steps ...step) api.Errno {
	for _, do := range steps {
		if e := do(); e != api.OK {
			return e
		}
	}
	return api.OK
}

// each is the steps of the numbers below n, as one.
func each(n int, of func(i int) step) step {
	var l []step
	for i := range n {
		l = append(l, of(i))
	}
	return func() api.Errno { return inTurn(l...) }
}

// erase is so many blocks erased, program is bytes programmed from a place on.
func erase(f *flash.Flash, block, n int) step {
	return each(n, func(i int) step {
		return func() api.Errno { return f.Erase(block + i) }
	})
}

func program(f *flash.Flash, at int, b []byte) step {
	return func() api.Errno { return f.Program(at, b) }
}
