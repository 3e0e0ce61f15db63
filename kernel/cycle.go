package kernel

import (
	"ballast/api"
	"ballast/core"
	"ballast/mover"
)

// The commands of a crossing.
const (
	closing = 1
	opening = 2
)

// noLine is the Line of a section that is none.
const noLine = 0

// cycle is a cycle under way: what is seen, and a copy of the state, which becomes the next one. The state, the view and the configuration fit one another.
type cycle struct {
	eye
	api.Core
	plan     api.Config
	recorded bool // was the state that was handed in recorded?
}

func begin(c api.Config, k api.Core, v api.View) *cycle {
	return &cycle{eye{v, c.Timing.Age}, core.Copy(k), c, !k.Dirty}
}

// ready: is the route ready?
func (s *cycle) ready(r int) bool {
	return s.clear(s.path(r)...) &&
		s.clear(s.overlap(r)...) &&
		s.stand(mover.Needs(s.plan, r)...) &&
		s.closed(mover.Crossings(s.plan, r)...) &&
		s.lit(s.plan.Routes[r].Entry) &&
		s.granted(r)
}

// path: the sections of the route's path, in their order.
func (s *cycle) path(r int) []int {
	var list []int
	for _, step := range s.plan.Routes[r].Path {
		list = append(list, step.Section)
	}
	return list
}

// overlap: what of its overlap the route owns. Another one may have inherited it, whose train may stand there.
func (s *cycle) overlap(r int) []int {
	var list []int
	for _, section := range s.plan.Routes[r].Overlap {
		if s.owns(r, section) {
			list = append(list, section)
		}
	}
	return list
}

func (s *cycle) owns(r, section int) bool { return s.Own[section] == r+1 }

// stand: is each point that is needed commanded so, and proved to stand so?
func (s *cycle) stand(needs ...api.Need) bool {
	for _, need := range needs {
		m := s.Points[need.Section]
		if m.Cmd != need.Pos || !s.pointProved(need.Section, m) {
			return false
		}
	}
	return true
}

// closed: is each of the crossings proved?
func (s *cycle) closed(crossings ...int) bool {
	for _, n := range crossings {
		if !s.crossingProved(n, s.Crossings[n]) {
			return false
		}
	}
	return true
}

// granted: has the neighbour granted what was asked for last, if the route goes out on a line?
func (s *cycle) granted(r int) bool {
	line := s.line(r)
	return line == noLine || s.Lines[line].Peer.Grant == s.Lines[line].Ask
}

// line: the line on which the route goes out. Only the last section of a path can be a line's: no way goes on from there.
func (s *cycle) line(r int) int {
	path := s.plan.Routes[r].Path
	return s.plan.Sections[path[len(path)-1].Section].Line
}

// goOn: each route goes on, as far as it may.
func (s *cycle) goOn(now int) {
	for r, route := range s.Routes {
		switch route.State {
		case api.Set:
			s.clearSignal(r)
		case api.Open, api.Fallen:
			s.holdSignal(now, r)
		case api.Ending:
			s.giveBack(now, r)
		}
	}
}

// clearSignal: the signal of a route that is ready is cleared, but only behind a record that lasts.
func (s *cycle) clearSignal(r int) {
	if s.recorded && s.ready(r) {
		s.Routes[r].State = api.Open
	}
}

// holdSignal: a route whose signal was cleared ends when its train comes, or what looks like one; when anything else isn't as it should be, the signal falls back.
func (s *cycle) holdSignal(now, r int) {
	route := &s.Routes[r]
	switch {
	case !s.clear(s.path(r)...):
		route.State, route.Since, route.Mark = api.Ending, now, 0
	case route.State == api.Open && !s.ready(r):
		route.State = api.Fallen
	}
}

// giveBack: a route that ends is done with the next section of its path, if it doesn't own it, or if it was seen clear when no train could come to it any more; behind the last one the route gives back all the rest.
func (s *cycle) giveBack(now, r int) {
	route, path := &s.Routes[r], s.path(r)
	held := route.Since + s.plan.Timing.Hold
	switch {
	case now < held:
		return
	case route.Next == len(path):
	case !s.owns(r, path[route.Next]):
		route.Next++
	case s.clearBehind(path[route.Next], max(held, route.Mark)):
		s.free(path[route.Next])
		route.Next++
		route.Mark = now
	}
	if route.Next == len(path) {
		s.end(r)
	}
}

// end: the route is Idle, and owns nothing any more.
func (s *cycle) end(r int) {
	for section := range s.Own {
		if s.owns(r, section) {
			s.free(section)
		}
	}
	if line := s.line(r); line != noLine {
		s.Lines[line].Done = s.Lines[line].Ask
	}
	s.Routes[r] = api.RouteState{}
	s.Dirty = true
}

func (s *cycle) free(section int) {
	s.Own[section] = api.Free
	s.Dirty = true
}

// commandCrossings: crossings are open where nobody may come.
func (s *cycle) commandCrossings(now int) {
	for n, section := range s.plan.Crossings {
		cmd := closing
		if s.Own[section] == api.Free {
			cmd = opening
		}
		s.Crossings[n] = mover.Command(s.Crossings[n], now, cmd)
	}
}

// doResets: sections whose reset was asked for go free, when they were seen clear behind that.
func (s *cycle) doResets() {
	for section, asked := range s.Resets {
		switch {
		case asked == 0:
		case s.Own[section] != api.Cold:
			s.Resets[section] = 0
		// Resets is the time plus 1.
		case s.clearBehind(section, asked-1):
			s.free(section)
			s.Resets[section] = 0
		}
	}
}

// aspects: what each signal shows. Of several routes that are Open Main goes ahead of Shunt, as their numbers do.
func (s *cycle) aspects() []int {
	list := make([]int, len(s.plan.Signals))
	for r, route := range s.plan.Routes {
		if s.Routes[r].State == api.Open {
			list[route.Entry] = max(list[route.Entry], aspect(route))
		}
	}
	return list
}

// aspect: what the route's signal shows when it is cleared.
func aspect(route api.Route) int {
	if route.Shunt {
		return api.Shunt
	}
	return api.Main
}
