package block_test

import (
	"fmt"
	"slices"
	"testing"

	"ballast/api"
	"ballast/block"
	"ballast/kernel"
	"ballast/locks"
)

// worked says another way what a cycle does to a state that fits: section by section, each change out of the state as it was.
func worked(c api.Config, was api.Core, v api.View, now int) api.Core {
	k := copied(was)
	for i, s := range c.Sections {
		if s.Line == 0 {
			continue
		}
		l, next := was.Lines[s.Line], &k.Lines[s.Line]
		locked := 0
		for r, route := range c.Routes {
			if was.Routes[r].State > 0 && c.Signals[route.Entry].Section == i {
				locked++
			}
		}
		isDone := l.Peer.Done >= l.Grant
		switch {
		case was.Own[i] == -2 && isDone && l.Since > 0 && v.Occ[i].Valid && v.Occ[i].Value == 0 && v.Occ[i].Stamp > l.Since-1:
			k.Own[i], next.Since = 0, 0
		case was.Own[i] == -2 && isDone && l.Since == 0:
			next.Since = 1 + now
		case was.Own[i] == -2 && !isDone:
			next.Since = 0
		case was.Own[i] == 0 && l.Peer.Ask > max(l.Grant, l.Peer.Done) && l.Done == l.Ask && locked == 0:
			k.Own[i], next.Since, next.Grant = -2, 0, l.Peer.Ask
		}
		if !was.Dirty {
			next.Told = l.Grant
		}
	}
	k.Dirty = was.Dirty || !slices.Equal(k.Own, was.Own)
	return k
}

// near is a number from 0 to MaxTime about another one.
func (d *dice) near(n int) int { return min(max(n+d.throw(7)-3, 0), api.MaxTime) }

// thrown is a state that fits, thrown together, and a now that most of its times lie about.
func thrown(d *dice, c api.Config) (api.Core, int) {
	k, now := empty(c), d.some(0, 20, 1000, api.MaxTime-2, api.MaxTime)
	for i := range k.Own {
		k.Own[i] = d.some(0, 0, -2, -2, d.throw(len(c.Routes)+3)-2)
	}
	for i := range k.Routes {
		k.Routes[i] = api.RouteState{State: d.some(0, 0, 0, d.throw(6)), Since: d.near(now)}
	}
	for i := range k.Lines {
		ask, grant := d.some(0, 5, api.MaxTime), d.some(0, 7, 300, api.MaxTime)
		peer := api.Block{Ask: d.near(grant), Done: d.near(grant), Grant: d.near(ask)}
		k.Lines[i] = api.LineState{Ask: ask, Done: d.some(ask, ask, d.near(ask)), Grant: grant, Told: d.some(grant, d.near(grant)), Peer: peer, Since: d.some(0, d.near(now)+d.throw(2))}
	}
	k.Dirty = d.once(3)
	return k, now
}

// look throws what is seen, about now.
func (d *dice) look(c api.Config, now int) api.View {
	v := worst(c)
	for i := range v.Occ {
		v.Occ[i] = api.Look{Value: d.some(0, 0, 0, 1, -1), Stamp: now - d.throw(4) + 2, Valid: !d.once(6)}
	}
	return v
}

// P15.1: states, views and what neighbours tell, thrown together; Tell, Hear and Step against the second working-out. All that can become of a line's section comes.
func TestThrown(t *testing.T) {
	found := map[string]int{}
	for _, text := range stations() {
		c := station(t, text)
		throws := dice(15)
		for range 8000 {
			k, now := thrown(&throws, c)
			v := throws.look(c, now)
			want := worked(c, k, v, now)
			steps(t, "thrown", c, k, v, now, func(k *api.Core) { *k = want })
			for line := 1; line < 4; line++ {
				l := k.Lines[line]
				if got := block.Tell(k, line); got != (api.Block{Ask: l.Ask, Done: l.Done, Grant: l.Told}) {
					t.Errorf("told of %v: %v", l, got)
				}
				if i := sectionOf(c, line); i >= 0 {
					hears(t, "thrown", c, k, line, api.Block{Ask: throws.near(now), Done: throws.near(0), Grant: throws.near(9)})
					found[fmt.Sprint(k.Own[i], want.Own[i], l.Since > 0, want.Lines[line].Since > 0)]++
				}
			}
		}
		if t.Failed() {
			t.Fatal("station:\n", text)
		}
	}
	for _, name := range []string{"0 -2 true false", "0 -2 false false", "0 0 true true", "0 0 false false", "-2 0 true false", "-2 -2 true true", "-2 -2 true false", "-2 -2 false true", "-2 -2 false false", "-1 -1 true true", "1 1 true true"} {
		if found[name] < 50 {
			t.Errorf("%s came only %d times: %v", name, found[name], found)
		}
	}
}

// side is a station at work, with all that it told of its lines.
type side struct {
	*dice
	api.Core
	c        api.Config
	now      int
	recorded api.Core      // as it was recorded last
	lasts    string        // what was recorded last
	told     [][]api.Block // by telegrams, by lines
	heard    []int         // by lines: the newest telegram of the other side's that was heard
	done     []int         // by lines: since which cycle the neighbour is done with the grant, -1: it isn't
	came     map[string]int
}

func newSide(t *testing.T, d *dice, text string, came map[string]int) *side {
	t.Helper()
	c := station(t, text)
	s := &side{dice: d, Core: empty(c), c: c, heard: make([]int, 4), done: slices.Repeat([]int{-1}, 4), came: came}
	s.records(t)
	s.tells()
	return s
}

// records lets all that must last do so.
func (s *side) records(t *testing.T) {
	t.Helper()
	text, e := locks.Save(s.Core)
	if e != api.OK {
		t.Fatal("Save: error ", e)
	}
	s.Dirty = false
	s.lasts, s.recorded = text, copied(s.Core)
}

// power lets the power go, and come back: all that was not recorded is gone.
func (s *side) power(t *testing.T) {
	t.Helper()
	k, e := locks.Load(s.c, s.now, s.lasts)
	if e != api.OK {
		t.Fatal("Load: error ", e)
	}
	s.Core, s.done = k, slices.Repeat([]int{-1}, 4)
	s.came["power"]++
}

// tells puts what is told of all lines into a telegram.
func (s *side) tells() {
	all := make([]api.Block, 4)
	for line := range all {
		all[line] = block.Tell(s.Core, line)
	}
	s.told = append(s.told, all)
}

// hears lets telegrams of the other side come: some are lost, some doubled, some late; none is older than one that was heard.
func (s *side) hears(t *testing.T, other *side) {
	t.Helper()
	for line := 1; line < 4; line++ {
		if sectionOf(s.c, line) < 0 || s.once(3) {
			continue
		}
		n := s.heard[line] + s.throw(len(other.told)-s.heard[line])
		switch {
		case n == s.heard[line]:
			s.came["doubled"]++
		case n < len(other.told)-1:
			s.came["late"]++
		}
		s.heard[line] = n
		s.Core = hears(t, "hears", s.c, s.Core, line, other.told[n][line])
	}
}

// asks lets a console ask for something.
func (s *side) asks() {
	n := s.throw(max(len(s.c.Sections), len(s.c.Routes)))
	var k api.Core
	e := api.ErrKind
	switch s.throw(16) {
	case 0, 1, 2:
		k, e = locks.Request(s.c, s.Core, s.now, n)
	case 3, 4:
		k, e = locks.Cancel(s.c, s.Core, s.now, n)
	case 5:
		k, e = locks.Restore(s.c, s.Core, n)
	case 6, 7:
		k, e = locks.Release(s.c, s.Core, s.now, n)
	}
	if e == api.OK {
		s.Core = k
	}
}

// sees is what controllers tell: mostly that all is as it should be; trains are on the paths of routes that are cleared, and on lines that are granted.
func (s *side) sees() api.View {
	v := calm(s.c, s.Core, s.now-s.throw(3))
	for r, route := range s.Routes {
		if route.State == api.Open && s.once(4) {
			v.Occ[s.c.Routes[r].Path[0].Section].Value = 1
		}
	}
	for i, owner := range s.Own {
		if owner == api.Inbound && s.once(3) || s.once(40) {
			v.Occ[i] = api.Look{Value: s.some(0, 1), Stamp: s.now - s.throw(6), Valid: s.once(2)}
		}
	}
	return v
}

// cycles takes a cycle of the lines, and holds what must hold of it.
func (s *side) cycles(t *testing.T) {
	t.Helper()
	v, was := s.sees(), copied(s.Core)
	for line := 1; line < 4; line++ {
		l := s.Lines[line]
		if l.Peer.Done < l.Grant {
			s.done[line] = -1
		} else if s.done[line] < 0 {
			s.done[line] = s.now
		}
	}
	is, e := block.Step(s.c, s.Core, v, s.now)
	if e != api.OK || !locks.Fits(s.c, is) {
		t.Fatalf("error %d, %+v", e, is)
	}
	same(t, "handed in", s.Core, was)
	for i, owner := range is.Own {
		if owner != was.Own[i] {
			s.changesRightly(t, was, is, v, i)
		}
	}
	s.tellsRightly(t, is)
	s.Core = is
}

// changesRightly holds that the section, whose owner is another one now, was granted, or taken back, as it may be. (P15.2)
func (s *side) changesRightly(t *testing.T, was, is api.Core, v api.View, i int) {
	t.Helper()
	line, look := s.c.Sections[i].Line, v.Occ[i]
	if line == 0 {
		t.Fatal("a section of no line has another owner")
	}
	l := was.Lines[line]
	why := fmt.Sprintf("at %d line %d, %+v, seen %v, done since %d", s.now, line, l, look, s.done[line])
	switch {
	case !is.Dirty:
		t.Error(why, "not Dirty")
	case was.Own[i] == api.Inbound && is.Own[i] == api.Free:
		s.came["freed"]++
		if l.Peer.Done < l.Grant || s.done[line] < 0 || !look.Valid || look.Value != 0 || look.Stamp <= s.done[line] {
			t.Error(why, "free")
		}
	case was.Own[i] == api.Free && is.Own[i] == api.Inbound:
		s.came["granted"]++
		if is.Lines[line].Grant != l.Peer.Ask || l.Peer.Ask <= l.Grant || l.Peer.Ask <= l.Peer.Done || l.Ask != l.Done {
			t.Error(why, "granted")
		}
		// The next one must be done with anew.
		s.done[line] = -1
	default:
		t.Error(why, was.Own[i], is.Own[i])
	}
}

// tellsRightly holds that no other grant is told than the one that was recorded, and none that is older than one told ahead. (P15.2)
func (s *side) tellsRightly(t *testing.T, is api.Core) {
	t.Helper()
	for line := 1; line < 4; line++ {
		told, before := block.Tell(is, line).Grant, block.Tell(s.Core, line).Grant
		if told == before {
			continue
		}
		s.came["told"]++
		if told != s.recorded.Lines[line].Grant || told < before {
			t.Errorf("at %d line %d is told %d: recorded is %+v", s.now, line, told, s.recorded)
		}
	}
}

// takes tells whether the side goes by the permission that it asked for.
func (s *side) takes(line int) bool {
	l := s.Lines[line]
	return l.Ask > l.Done && l.Peer.Grant == l.Ask
}

// never holds that of two sides which take a line as theirs at most one does so, and that the other one's section is Inbound then. (P15.3)
func never(t *testing.T, a, b *side) {
	t.Helper()
	for line := 1; line < 4; line++ {
		i, j := sectionOf(a.c, line), sectionOf(b.c, line)
		if i < 0 {
			continue
		}
		if a.takes(line) && b.Own[j] != api.Inbound || b.takes(line) && a.Own[i] != api.Inbound || a.takes(line) && b.takes(line) {
			t.Errorf("line %d: %+v, owner %d; %+v, owner %d", line, a.Lines[line], a.Own[i], b.Lines[line], b.Own[j])
		}
		if a.takes(line) != b.takes(line) {
			a.came["taken"]++
		}
		if a.Lines[line].Ask > a.Lines[line].Done && b.Lines[line].Ask > b.Lines[line].Done {
			a.came["both asked"]++
		}
	}
}

// goesOn is one side's cycle, as a machine does it: what comes, what is asked, the lines, the routes, the record; then it tells. The power may go in between, and then nothing is told; or, where it doesn't go, the record may come later than what is told.
func (s *side) goesOn(t *testing.T, other *side, powers bool) {
	t.Helper()
	s.now++
	s.hears(t, other)
	never(t, s, other)
	s.asks()
	never(t, s, other)
	s.cycles(t)
	never(t, s, other)
	k, _, e := kernel.Step(s.c, s.Core, s.sees(), s.now)
	if e != api.OK {
		t.Fatal("kernel: error ", e)
	}
	s.Core = k
	never(t, s, other)
	switch {
	case powers && s.once(40):
		s.power(t)
		never(t, s, other)
		return
	case s.Dirty && (powers || s.once(3)):
		s.records(t)
	}
	s.tells()
}

// P15.2, P15.3: rows of two stations, whose lines lead from the one to the other, with telegrams lost, doubled, and late, and with losses of power.
func TestTwoStations(t *testing.T) {
	came := map[string]int{}
	for _, text := range []string{delta, chapter, fork} {
		for seed := range 6 {
			throws := dice(seed)
			a, b := newSide(t, &throws, text, came), newSide(t, &throws, text, came)
			for range 3000 {
				first, second := a, b
				if throws.once(2) {
					first, second = b, a
				}
				first.goesOn(t, second, seed%2 == 0)
				if throws.once(2) {
					second.goesOn(t, first, seed%2 == 0)
				}
				if t.Failed() {
					t.Fatal("seed ", seed, ", station:\n", text)
				}
			}
		}
	}
	for _, name := range []string{"granted", "told", "freed", "taken", "both asked", "doubled", "late", "power"} {
		if came[name] < 100 {
			t.Errorf("%s came only %d times: %v", name, came[name], came)
		}
	}
}

// R4: the same rows give the same answers.
func TestSameAgain(t *testing.T) {
	row := func() string {
		throws, answers := dice(7), ""
		a, b := newSide(t, &throws, delta, map[string]int{}), newSide(t, &throws, delta, map[string]int{})
		for range 300 {
			a.goesOn(t, b, true)
			b.goesOn(t, a, true)
			answers += fmt.Sprint(a.Core, b.Core, ";")
		}
		return answers
	}
	if first, second := row(), row(); first != second {
		t.Errorf("first:\n%s\nthen:\n%s", first, second)
	}
}
