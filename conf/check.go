package conf

import (
	"slices"

	"ballast/api"
	"ballast/topo"
)

// Check: is all right?
func Check(c api.Config) api.Errno {
	p := plan{c}
	// Each check leans on what those ahead of it found right.
	switch {
	case topo.Check(p.Sections, p.Joints) != api.OK:
		return api.ErrTopo
	case !p.signalsRight():
		return api.ErrSignal
	case !p.crossingsRight():
		return api.ErrCrossing
	}
	if e := p.checkRoutes(); e != api.OK {
		return e
	}
	if !timingRight(p.Timing) {
		return api.ErrTiming
	}
	return api.OK
}

func (p plan) signalsRight() bool {
	if len(p.Signals) > api.MaxSignals {
		return false
	}
	for i, s := range p.Signals {
		if !p.joined(s.Section, s.End) || slices.Contains(p.Signals[i+1:], s) {
			return false
		}
	}
	return true
}

func (p plan) crossingsRight() bool {
	if len(p.Crossings) > api.MaxCrossings {
		return false
	}
	for i, section := range p.Crossings {
		if !has(p.Sections, section) || p.Sections[section].Line != 0 || slices.Contains(p.Crossings[i+1:], section) {
			return false
		}
	}
	return true
}

func (p plan) checkRoutes() api.Errno {
	if len(p.Routes) > api.MaxRoutes {
		return api.ErrRoute
	}
	for _, r := range p.Routes {
		switch {
		case !p.routeRight(r):
			return api.ErrRoute
		case !slices.Equal(r.Flank, Flank(p.Config, p.approach(r), r.Path...)):
			return api.ErrFlank
		case !slices.Equal(r.Overlap, Overlap(p.Config, r)):
			return api.ErrOverlap
		}
	}
	return api.OK
}

// routeRight: is the route right but for its flank and its overlap?
func (p plan) routeRight(r api.Route) bool {
	if !has(p.Signals, r.Entry) || r.Exit != none && !has(p.Signals, r.Exit) {
		return false
	}
	if len(r.Path) < 1 || len(r.Path) > api.MaxPath {
		return false
	}
	// A path that hangs together has sections of the plan only: what comes behind may ask for them.
	return p.hangsTogether(r) && p.goesOnce(r) && p.endsRight(r) && !(r.Shunt && p.usesLine(r.Path))
}

// hangsTogether: does the path begin beyond the entry signal, each step where the one before leads, each by a way?
func (p plan) hangsTogether(r api.Route) bool {
	section, in, ok := p.beyond(r.Entry)
	for _, step := range r.Path {
		if !ok || step.Section != section || step.In != in {
			return false
		}
		if _, way := topo.Pos(p.Sections[section].Kind, in, step.Out); !way {
			return false
		}
		section, in, ok = topo.Next(p.Joints, section, step.Out)
	}
	return true
}

// goesOnce: are the path's sections unlike one another and the approach?
func (p plan) goesOnce(r api.Route) bool {
	seen := make([]bool, len(p.Sections))
	seen[p.approach(r)] = true
	for _, step := range r.Path {
		if seen[step.Section] {
			return false
		}
		seen[step.Section] = true
	}
	return true
}

// endsRight: is the path's end the first signal that it comes to, its exit, or else where the track ends?
func (p plan) endsRight(r api.Route) bool {
	last := len(r.Path) - 1
	for _, step := range r.Path[:last] {
		if slices.Contains(p.Signals, leaves(step)) {
			return false
		}
	}
	end := leaves(r.Path[last])
	if r.Exit == none {
		return !p.joined(end.Section, end.End)
	}
	// No two signals stand at one end: where the exit stands is no other one.
	return p.Signals[r.Exit] == end
}

// leaves: the signal that a train passes that leaves the step's section, if there is one.
func leaves(step api.Step) api.Signal {
	return api.Signal{Section: step.Section, End: step.Out}
}

func (p plan) usesLine(path []api.Step) bool {
	return slices.ContainsFunc(path, func(step api.Step) bool { return p.Sections[step.Section].Line != 0 })
}

// joined: does the end stand in a joint? On a right plan none but a section's end does.
func (p plan) joined(section, end int) bool {
	_, _, ok := topo.Next(p.Joints, section, end)
	return ok
}

func timingRight(t api.Timing) bool {
	return within(t.Age, 1, api.MaxAge) &&
		within(t.Brake, 0, api.MaxBrake) &&
		within(t.Hold, t.Age+t.Brake+1, api.MaxHold) &&
		within(t.Budget, 1, api.MaxBudget)
}

func within(n, least, most int) bool { return n >= least && n <= most }
