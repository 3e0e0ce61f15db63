package block

import (
	"ballast/api"
	"ballast/core"
)

// cycle is a cycle of the lines under way: a copy of the state, which becomes the next one, and what is seen. The state, the view and the configuration fit one another.
type cycle struct {
	api.Core
	api.View
	plan     api.Config
	recorded bool // was the state that was handed in recorded?
}

// goOn: the line's section is taken back, or granted. Each asks for who owned it ahead of this cycle: one that is taken back isn't granted anew in the same one.
func (s *cycle) goOn(now, line int) {
	section, granted := sectionOf(s.plan, line), s.Lines[line].Grant
	switch s.Own[section] {
	case api.Inbound:
		s.takeBack(now, line, section)
	case api.Free:
		s.grant(line, section)
	}
	if s.recorded {
		s.Lines[line].Told = granted
	}
}

// takeBack: the section goes free, when it was seen clear behind the neighbour's being done with the grant; a look from ahead of that may have missed the train.
func (s *cycle) takeBack(now, line, section int) {
	l, look := &s.Lines[line], s.Occ[section]
	switch {
	case l.Peer.Done < l.Grant:
		l.Since = 0
	// Since is the time plus 1.
	case l.Since == 0:
		l.Since = now + 1
	case core.Clear(look) && look.Stamp >= l.Since:
		s.give(line, section, api.Free)
	}
}

// grant: the neighbour has the section, if it asks for it anew, and nobody here asks for the line, nor may come out on it.
func (s *cycle) grant(line, section int) {
	l := &s.Lines[line]
	asked := l.Peer.Ask > l.Grant && l.Peer.Ask > l.Peer.Done
	if asked && l.Ask == l.Done && !core.Approached(s.plan, s.Core, section) {
		l.Grant = l.Peer.Ask
		s.give(line, section, api.Inbound)
	}
}

// give: the section has another owner, so that nothing is known of its being left.
func (s *cycle) give(line, section, owner int) {
	s.Own[section] = owner
	s.Lines[line].Since = 0
	s.Dirty = true
}
