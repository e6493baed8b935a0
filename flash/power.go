package flash

import "pennant/api"

// Arm lets the power go in a change to come, when so many bytes of it are done; Off tells whether it is off, Power lets it come.
func (f *Flash) Arm(changes, bytes int) { f.armed, f.ahead, f.left = true, changes, bytes }

func (f *Flash) Off() bool { return f.off }

func (f *Flash) Power() { f.off, f.armed = false, false }

// change does so many bytes, one by one, until the power goes; behind the last one it may go too.
func (f *Flash) change(n int, do func(i int)) api.Errno {
	goes := f.goes()
	for i := range n {
		if goes && i >= f.left {
			break
		}
		do(i)
	}
	if goes {
		f.off = true
		return api.ErrOff
	}
	return api.OK
}

// goes tells whether the power goes in the change that begins; if not, that is one of those ahead.
func (f *Flash) goes() bool {
	if !f.armed || f.ahead < 1 {
		return f.armed
	}
	f.ahead--
	return false
}
