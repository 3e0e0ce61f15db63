package locks

import (
	"slices"

	"ballast/api"
	"ballast/conf"
	"ballast/core"
	"ballast/mover"
)

// state is a copy of a state that fits, which a call may change, and the configuration that it fits.
type state struct {
	api.Core
	plan api.Config
}

// Request: a route is locked.
func Request(c api.Config, k api.Core, now, r int) (api.Core, api.Errno) {
	return answer(c, k, func(s *state) api.Errno { return s.request(now, r) }, now)
}

// Cancel: a route is let go.
func Cancel(c api.Config, k api.Core, now, r int) (api.Core, api.Errno) {
	return answer(c, k, func(s *state) api.Errno { return s.letGo(now, r, api.Set, api.Open, api.Fallen) }, now)
}

// Restore: a route whose signal fell back may be cleared again.
func Restore(c api.Config, k api.Core, r int) (api.Core, api.Errno) {
	return answer(c, k, func(s *state) api.Errno { return s.restore(r) })
}

// Release: a route that was locked when the power came back is let go.
func Release(c api.Config, k api.Core, now, r int) (api.Core, api.Errno) {
	return answer(c, k, func(s *state) api.Errno { return s.letGo(now, r, api.Held) }, now)
}

// Reset: a section that is locked since the first start shall go free.
func Reset(c api.Config, k api.Core, now, section int) (api.Core, api.Errno) {
	return answer(c, k, func(s *state) api.Errno { return s.reset(now, section) }, now)
}

// Throw: a point is moved.
func Throw(c api.Config, k api.Core, now, section, pos int) (api.Core, api.Errno) {
	return answer(c, k, func(s *state) api.Errno { return s.throw(now, section, pos) }, now)
}

// answer: what is done goes to a copy, so that a call that is refused, and the state that was handed in, stay untouched.
func answer(c api.Config, k api.Core, do func(*state) api.Errno, times ...int) (api.Core, api.Errno) {
	switch {
	case !Fits(c, k):
		return core.Copy(k), api.ErrState
	case !within(0, api.MaxTime, times...):
		return core.Copy(k), api.ErrField
	}
	s := &state{core.Copy(k), c}
	if e := do(s); e != api.OK {
		return core.Copy(k), e
	}
	return s.Core, api.OK
}

func (s *state) request(now, r int) api.Errno {
	switch {
	case !has(s.Routes, r):
		return api.ErrIndex
	case s.Routes[r].State != api.Idle:
		return api.ErrLatch
	}
	sections, lines := conf.Locks(s.plan, r), s.lines(r)
	switch {
	case slices.ContainsFunc(sections, s.ahead):
		return api.ErrApproach
	case !s.canTake(r, sections...):
		return api.ErrLocked
	case slices.ContainsFunc(lines, s.askedOut):
		return api.ErrFull
	}
	s.take(r, sections...)
	s.Routes[r] = api.RouteState{State: api.Set}
	s.setPoints(now, mover.Needs(s.plan, r)...)
	s.closeCrossings(now, mover.Crossings(s.plan, r)...)
	s.askFor(lines...)
	s.Dirty = true
	return api.OK
}

// letGo: the route ends, if its state is one of these.
func (s *state) letGo(now, r int, states ...int) api.Errno {
	switch {
	case !has(s.Routes, r):
		return api.ErrIndex
	case !slices.Contains(states, s.Routes[r].State):
		return api.ErrLatch
	}
	// What of its path went free stays free: it goes on at Next.
	s.Routes[r] = api.RouteState{State: api.Ending, Since: now, Next: s.Routes[r].Next}
	s.Dirty = true
	return api.OK
}

func (s *state) restore(r int) api.Errno {
	switch {
	case !has(s.Routes, r):
		return api.ErrIndex
	case s.Routes[r].State != api.Fallen:
		return api.ErrLatch
	}
	s.Routes[r].State = api.Set
	return api.OK
}

func (s *state) reset(now, section int) api.Errno {
	switch {
	case !has(s.Own, section):
		return api.ErrIndex
	case s.Own[section] != api.Cold:
		return api.ErrLatch
	}
	s.Resets[section] = now + 1
	return api.OK
}

func (s *state) throw(now, section, pos int) api.Errno {
	switch {
	case !has(s.Own, section) || s.plan.Sections[section].Kind != api.Point:
		return api.ErrIndex
	case pos != api.Normal && pos != api.Reverse:
		return api.ErrField
	case s.Own[section] != api.Free:
		return api.ErrLocked
	}
	s.setPoints(now, api.Need{Section: section, Pos: pos})
	return api.OK
}

// ahead: does the section lie ahead of a locked route's signal?
func (s *state) ahead(section int) bool { return core.Approached(s.plan, s.Core, section) }

// canTake: may the route own each of the sections?
func (s *state) canTake(r int, sections ...int) bool {
	for _, section := range sections {
		if s.Own[section] != api.Free && !s.inherits(r, section) {
			return false
		}
	}
	return true
}

// inherits: may the route own what is another one's? No route's exit is its own entry, so an owner whose exit is this one's entry is another one.
func (s *state) inherits(r, section int) bool {
	owner := s.Own[section] - 1
	if !has(s.plan.Routes, owner) {
		return false
	}
	other := s.plan.Routes[owner]
	return other.Exit == s.plan.Routes[r].Entry && slices.Contains(other.Overlap, section)
}

// lines: the lines on which the route's path lies.
func (s *state) lines(r int) []int {
	var list []int
	for _, step := range s.plan.Routes[r].Path {
		if line := s.plan.Sections[step.Section].Line; line != 0 {
			list = append(list, line)
		}
	}
	return list
}

// askedOut: is there no number left to ask for the line with?
func (s *state) askedOut(line int) bool { return s.Lines[line].Ask == api.MaxTime }

func (s *state) take(r int, sections ...int) {
	for _, section := range sections {
		s.Own[section] = r + 1
	}
}

// setPoints commands points the positions that are needed.
func (s *state) setPoints(now int, needs ...api.Need) {
	for _, n := range needs {
		s.Points[n.Section] = mover.Command(s.Points[n.Section], now, n.Pos)
	}
}

// closeCrossings commands crossings to close.
func (s *state) closeCrossings(now int, crossings ...int) {
	for _, n := range crossings {
		s.Crossings[n] = mover.Command(s.Crossings[n], now, shut)
	}
}

// askFor asks for each of the lines once more.
func (s *state) askFor(lines ...int) {
	for _, line := range lines {
		s.Lines[line].Ask++
	}
}
