package slots

import "pennant/api"

func (s *Slots) hasTrial() bool { return s.keeper.Record().Trial != none }

// target is the slot that an image is taken into.
func (s *Slots) target() int { return 1 - s.keeper.Record().Active }

// intake is the header of the target, if that may be worked on: what is tried is left as it is.
func (s *Slots) intake() (header, bool) {
	if s.hasTrial() {
		return header{}, false
	}
	return s.side(s.target()).header()
}

// endTrial lets there be no trial, and a slot be the active one.
func (s *Slots) endTrial(active int) api.Errno {
	b := s.keeper.Record()
	b.Active, b.Trial, b.Tries = active, none, 0
	return s.keeper.Save(b)
}
