package kernel_test

import (
	"fmt"
	"slices"
	"testing"

	"ballast/api"
	"ballast/kernel"
	"ballast/locks"
)

// free tells whether the look says that the section is clear.
func free(l api.Look) bool { return l.Valid && l.Value == 0 }

// stands tells whether the mover has the command, and is proved to stand so.
func stands(m api.Mover, l api.Look, cmd, age int) bool {
	stamp := min(max(l.Stamp, -1), 1<<62)
	return cmd > 0 && m.Cmd == cmd && l.Value == cmd && l.Valid && stamp-age > m.Other
}

// workedReady says another way whether the route is ready, of a state and a view that fit.
func workedReady(c api.Config, k api.Core, v api.View, r int) bool {
	route, age := c.Routes[r], c.Timing.Age
	ready := v.Lamp[route.Entry].Valid && v.Lamp[route.Entry].Value == 1
	for _, s := range route.Path {
		section := c.Sections[s.Section]
		ready = ready && free(v.Occ[s.Section])
		if section.Kind == api.Point {
			ready = ready && stands(k.Points[s.Section], v.Pos[s.Section], max(s.In, s.Out), age)
		}
		if n := slices.Index(c.Crossings, s.Section); n >= 0 {
			ready = ready && stands(k.Crossings[n], v.Shut[n], k.Crossings[n].Cmd, age)
		}
		if section.Line > 0 {
			ready = ready && k.Lines[section.Line].Ask == k.Lines[section.Line].Peer.Grant
		}
	}
	for _, n := range route.Flank {
		ready = ready && stands(k.Points[n.Section], v.Pos[n.Section], n.Pos, age)
	}
	for _, section := range route.Overlap {
		ready = ready && (k.Own[section] != r+1 || free(v.Occ[section]))
	}
	return ready
}

// worked says another way what a cycle does to a state that fits.
func worked(c api.Config, was api.Core, v api.View, now int) (api.Core, []int) {
	k := copied(was)
	shown := make([]int, len(c.Signals))
	for r, route := range c.Routes {
		occupied := slices.ContainsFunc(route.Path, func(s api.Step) bool { return !free(v.Occ[s.Section]) })
		ready := workedReady(c, was, v, r)
		switch s := &k.Routes[r]; s.State {
		case 1:
			if ready && !was.Dirty {
				s.State = 2
			}
		case 2, 3:
			if occupied {
				*s = api.RouteState{State: 4, Since: now, Next: s.Next}
			} else if !ready {
				s.State = 3
			}
		case 4:
			workedEnding(c, &k, v, now, r)
		}
		if k.Routes[r].State == 2 {
			for _, aspect := range []int{api.Shunt, api.Main} {
				if route.Shunt == (aspect == api.Shunt) && shown[route.Entry] < aspect {
					shown[route.Entry] = aspect
				}
			}
		}
	}
	gates(c, &k, now)
	for section, asked := range k.Resets {
		look := v.Occ[section]
		clear := free(look) && look.Stamp >= asked
		if asked > 0 && k.Own[section] == api.Cold && clear {
			k.Own[section], k.Dirty = api.Free, true
		}
		if k.Own[section] != api.Cold {
			k.Resets[section] = 0
		}
	}
	return k, shown
}

func workedEnding(c api.Config, k *api.Core, v api.View, now, r int) {
	s, path := &k.Routes[r], c.Routes[r].Path
	from := s.Since + c.Timing.Hold
	if now < from {
		return
	}
	if s.Next < len(path) {
		section := path[s.Next].Section
		look, owned := v.Occ[section], k.Own[section] == r+1
		if owned && free(look) && look.Stamp > from && look.Stamp > s.Mark {
			k.Own[section], k.Dirty, s.Mark = api.Free, true, now
		}
		if !owned || k.Own[section] == api.Free {
			s.Next++
		}
	}
	if s.Next < len(path) {
		return
	}
	for section, owner := range k.Own {
		if owner == r+1 {
			k.Own[section] = api.Free
		}
	}
	for _, step := range path {
		if line := c.Sections[step.Section].Line; line > 0 {
			k.Lines[line].Done = k.Lines[line].Ask
		}
	}
	*s, k.Dirty = api.RouteState{}, true
}

// near is a time from 0 to MaxTime about another one.
func (d *dice) near(now int) int { return min(max(now+d.throw(16)-12, 0), api.MaxTime) }

// thrown is a state that fits, thrown together, and a now that most of its times lie about.
func thrown(d *dice, c api.Config) (api.Core, int) {
	k, now := empty(c), d.some(0, 20, 100, 1<<20, api.MaxTime-5, api.MaxTime)
	for i := range k.Own {
		k.Own[i] = d.some(0, d.throw(len(c.Routes)+3)-2)
		k.Points[i] = api.Mover{Cmd: d.some(0, 1, 1, 2), Other: d.near(now-6) - d.throw(2)}
		k.Points[i].Other = max(k.Points[i].Other, -1)
		k.Resets[i] = d.some(0, 0, d.near(now)+d.throw(2))
	}
	for i := range k.Routes {
		k.Routes[i] = api.RouteState{State: d.throw(6), Since: d.near(now - c.Timing.Hold), Next: d.throw(len(c.Routes[i].Path) + 1), Mark: d.some(0, d.near(now))}
		// A good part of the routes own what they lock, and have their points where they need them.
		if d.once(2) {
			d.give(c, &k, i)
		}
	}
	for i := range k.Crossings {
		k.Crossings[i] = api.Mover{Cmd: d.some(0, 1, 1, 1, 2), Other: max(d.near(now-6)-d.throw(2), -1)}
	}
	for i := range k.Lines {
		ask := d.near(50)
		peer := api.Block{Ask: d.near(50), Done: d.near(50), Grant: d.some(ask, d.near(50))}
		k.Lines[i] = api.LineState{Ask: ask, Done: d.near(50), Grant: d.near(50), Told: d.near(50), Peer: peer, Since: d.near(now)}
	}
	k.Dirty = d.once(3)
	return k, now
}

// give lets the route own what it locks, with its points commanded as it needs them.
func (d *dice) give(c api.Config, k *api.Core, r int) {
	for _, s := range c.Routes[r].Path {
		k.Own[s.Section] = r + 1
		k.Points[s.Section].Cmd = max(s.In, s.Out)
	}
	for _, n := range c.Routes[r].Flank {
		k.Own[n.Section] = r + 1
		k.Points[n.Section].Cmd = n.Pos
	}
	for _, section := range c.Routes[r].Overlap {
		k.Own[section] = d.some(k.Own[section], r+1)
	}
}

// look throws what is seen: mostly that all is as it should be, about now.
func (d *dice) look(c api.Config, k api.Core, now int) api.View {
	v := calm(c, k, 0)
	for _, looks := range [][]api.Look{v.Occ, v.Pos, v.Shut, v.Lamp} {
		for i := range looks {
			looks[i].Stamp = now - d.throw(4)
			if d.once(12) {
				looks[i] = api.Look{Value: d.some(0, 1, 1, 2, -1), Stamp: d.near(now), Valid: !d.once(3)}
			}
		}
	}
	return v
}

// P14.1: states and views thrown together; Ready and Step against the second working-out. All ways that a route goes on come, and all other changes.
func TestThrown(t *testing.T) {
	found := map[string]int{}
	for _, text := range stations() {
		c := station(t, text)
		throws := dice(13)
		for range 6000 {
			k, now := thrown(&throws, c)
			v := throws.look(c, k, now)
			want, shown := worked(c, k, v, now)
			steps(t, "thrown", c, k, v, now, shown, func(k *api.Core) { *k = want })
			for r := range c.Routes {
				ready := workedReady(c, k, v, r)
				if kernel.Ready(c, k, v, r) != ready {
					t.Errorf("Ready of %d isn't %v: %+v, %+v", r, ready, k, v)
				}
				found[fmt.Sprint(k.Routes[r].State, want.Routes[r].State, want.Routes[r].Next-k.Routes[r].Next)]++
			}
			for section := range k.Own {
				found[fmt.Sprint("reset ", k.Own[section] == api.Cold, want.Own[section] == api.Free, k.Resets[section] > 0, want.Resets[section] > 0)]++
			}
			for _, aspect := range shown {
				found[fmt.Sprint("shown ", aspect)]++
			}
		}
		if t.Failed() {
			t.Fatal("station:\n", text)
		}
	}
	for _, name := range []string{"1 1 0", "1 2 0", "2 2 0", "2 3 0", "2 4 0", "3 3 0", "3 4 0", "4 4 0", "4 4 1", "4 0 0", "4 0 -1", "5 5 0",
		"reset true true true false", "reset true false true true", "reset false false true false", "shown 0", "shown 1", "shown 2"} {
		if found[name] < 50 {
			t.Errorf("%s came only %d times: %v", name, found[name], found)
		}
	}
}

// world is a station at work: consoles ask, trains come, controllers are silent, the power goes, and each cycle is looked at.
type world struct {
	dice
	api.Core
	c       api.Config
	now     int
	trains  []int // by sections: up to which cycle one is in it
	cleared []int // by routes: the last cycle in which its signal was cleared, -1: in none since it was locked
	came    map[string]int
}

func newWorld(t *testing.T, seed int, text string) *world {
	t.Helper()
	c := station(t, text)
	return &world{dice: dice(seed), Core: locks.New(c, 0), c: c, trains: make([]int, len(c.Sections)), cleared: slices.Repeat([]int{-1}, len(c.Routes)), came: map[string]int{}}
}

// asks lets consoles ask for something, and neighbours tell something.
func (w *world) asks() {
	n := w.throw(max(len(w.c.Sections), len(w.c.Routes)))
	var k api.Core
	e := api.ErrKind
	switch w.throw(8) {
	case 0, 1, 2:
		if k, e = locks.Request(w.c, w.Core, w.now, n); e == api.OK {
			w.cleared[n] = -1
		}
	case 3:
		if w.once(8) {
			k, e = locks.Cancel(w.c, w.Core, w.now, n)
		}
	case 4:
		k, e = locks.Restore(w.c, w.Core, n)
	case 5:
		k, e = locks.Release(w.c, w.Core, w.now, n)
	case 6:
		k, e = locks.Reset(w.c, w.Core, w.now, n)
	case 7:
		k, e = locks.Throw(w.c, w.Core, w.now, n, 1+w.throw(2))
	}
	if e == api.OK {
		w.Core = k
	}
	for line := 1; line < len(w.Lines); line++ {
		w.Lines[line].Peer.Grant = w.some(w.Lines[line].Ask, w.Lines[line].Ask, w.Lines[line].Peer.Grant)
	}
	for section, s := range w.c.Sections {
		if s.Line > 0 && w.once(30) && (w.Own[section] == api.Free || w.Own[section] == api.Inbound) {
			w.Own[section] = api.Inbound - w.Own[section]
		}
	}
}

// runs lets trains go into the paths of routes that are cleared, and be anywhere else now and then.
func (w *world) runs() {
	for r, route := range w.Routes {
		if route.State == api.Open && w.once(6) {
			for i, s := range w.c.Routes[r].Path {
				w.trains[s.Section] = w.now + w.throw(4)*(i+1) + 1
			}
		}
	}
	if w.once(15) {
		w.trains[w.throw(len(w.trains))] = w.now + w.throw(20)
	}
}

// sees is what controllers tell: where trains are, and how things stand, now and then late, or not at all.
func (w *world) sees() api.View {
	v := calm(w.c, w.Core, w.now-w.throw(2))
	for section, till := range w.trains {
		if till > w.now {
			v.Occ[section].Value = 1
		}
	}
	if w.once(10) {
		for _, looks := range [][]api.Look{v.Occ, v.Pos, v.Shut, v.Lamp} {
			for i := range looks {
				if w.once(8) {
					looks[i] = api.Look{Value: w.some(0, 1), Stamp: w.now - w.throw(6), Valid: w.once(2)}
				}
			}
		}
	}
	return v
}

// power lets the power go, and come back.
func (w *world) power(t *testing.T) {
	t.Helper()
	text, e := locks.Save(w.Core)
	if e != api.OK {
		t.Fatal("Save: error ", e)
	}
	if w.Core, e = locks.Load(w.c, w.now, text); e != api.OK {
		t.Fatal("Load: error ", e)
	}
	w.came["power"]++
}

// cycles takes a cycle, and holds what must hold of it.
func (w *world) cycles(t *testing.T) {
	t.Helper()
	v, was := w.sees(), copied(w.Core)
	is, shown, e := kernel.Step(w.c, w.Core, v, w.now)
	if e != api.OK || !locks.Fits(w.c, is) {
		t.Fatalf("error %d, %+v", e, is)
	}
	same(t, "handed in", w.Core, was)
	w.showsRightly(t, was, is, v, shown)
	for section, owner := range is.Own {
		if owner != was.Own[section] {
			w.freesRightly(t, was, is, v, section)
		}
	}
	w.hidesAtWorst(t)
	for r, route := range is.Routes {
		w.came[fmt.Sprint(was.Routes[r].State, route.State)]++
		if route.State == api.Open {
			w.cleared[r] = w.now
		}
	}
	w.Core = is
}

// showsRightly holds that a signal shows other than Stop only for a route that is Open now, was Set and recorded, or Open, ahead, and is ready. (P14.2)
func (w *world) showsRightly(t *testing.T, was, is api.Core, v api.View, shown []int) {
	t.Helper()
	for x, aspect := range shown {
		may := aspect == api.Stop
		for r, route := range w.c.Routes {
			state := was.Routes[r].State
			right := route.Entry == x && is.Routes[r].State == api.Open && route.Shunt == (aspect == api.Shunt)
			may = may || right && (state == api.Open || state == api.Set && !was.Dirty) && kernel.Ready(w.c, was, v, r)
		}
		if !may {
			t.Errorf("at %d signal %d shows %d: %v, was %v, dirty %v", w.now, x, aspect, is.Routes, was.Routes, was.Dirty)
		}
	}
}

// freesRightly holds that the section, whose owner is another one now, is Free: reset, or given back by a route that ends. (P14.3)
func (w *world) freesRightly(t *testing.T, was, is api.Core, v api.View, section int) {
	t.Helper()
	owner, look := was.Own[section], v.Occ[section]
	why := fmt.Sprintf("at %d section %d of %d: now %d, seen %v, ", w.now, section, owner, is.Own[section], look)
	if is.Own[section] != api.Free || !is.Dirty {
		t.Error(why, "not Free, or not Dirty")
	}
	if owner == api.Cold {
		w.came["reset"]++
		if !free(look) || was.Resets[section] == 0 || look.Stamp < was.Resets[section] {
			t.Error(why, "reset by ", was.Resets[section])
		}
		return
	}
	if owner <= 0 || was.Routes[owner-1].State != api.Ending {
		t.Fatal(why, "of no route that ends")
	}
	r := owner - 1
	route, path := was.Routes[r], w.c.Routes[r].Path
	from := route.Since + w.c.Timing.Hold
	if w.now < from || w.cleared[r] >= 0 && w.now < w.cleared[r]+w.c.Timing.Hold {
		t.Error(why, "too early for ", route, ", cleared at ", w.cleared[r])
	}
	for _, s := range path[:route.Next] {
		if is.Own[s.Section] == owner {
			t.Error(why, "ahead of section ", s.Section)
		}
	}
	// Flank and overlap go with the path's last section.
	with := section
	if at := slices.IndexFunc(path, func(s api.Step) bool { return s.Section == section }); at < 0 {
		w.came["rest"]++
		with = path[len(path)-1].Section
		if is.Routes[r].State != api.Idle || is.Own[with] == owner {
			t.Error(why, "not a path's section of ", is.Routes[r])
		}
	} else if at != route.Next {
		t.Error(why, "number ", at, " of ", route)
	}
	if look := v.Occ[with]; !free(look) || look.Stamp <= from || look.Stamp <= route.Mark {
		t.Error(why, "not seen clear behind ", route)
	}
}

// hidesAtWorst holds what happens if the controllers were all silent now. (P14.4)
func (w *world) hidesAtWorst(t *testing.T) {
	t.Helper()
	is, shown, e := kernel.Step(w.c, w.Core, worst(w.c), w.now)
	if e != api.OK || slices.Max(append(shown, api.Stop)) != api.Stop {
		t.Errorf("at %d all at the worst: error %d, %v", w.now, e, shown)
	}
	list(t, "owners at the worst", "Own", is.Own, w.Own)
	for r, route := range is.Routes {
		if route.State == api.Open {
			t.Errorf("at %d all at the worst: route %d is open", w.now, r)
		}
	}
}

// P14.2, P14.3, P14.4: rows of cycles, of what is asked and what happens meanwhile, with losses of power.
func TestRows(t *testing.T) {
	came := map[string]int{}
	for _, text := range stations() {
		for seed := range 4 {
			w := newWorld(t, seed, text)
			for range 2500 {
				w.now += 1 + w.throw(2)
				w.asks()
				w.runs()
				w.cycles(t)
				// Mostly all is recorded in the cycle in which it changed.
				w.Dirty = w.Dirty && w.once(5)
				if w.once(400) {
					w.power(t)
				}
				if t.Failed() {
					t.Fatal("seed ", seed, ", station:\n", text)
				}
			}
			for name, n := range w.came {
				came[name] += n
			}
		}
	}
	for _, name := range []string{"1 2", "2 3", "2 4", "3 4", "4 0", "5 5", "reset", "rest", "power"} {
		if came[name] < 40 {
			t.Errorf("%s came only %d times: %v", name, came[name], came)
		}
	}
}

// R4: the same rows give the same answers.
func TestSameAgain(t *testing.T) {
	row := func() string {
		w, answers := newWorld(t, 7, fork), ""
		for range 600 {
			w.now++
			w.asks()
			w.runs()
			v := w.sees()
			is, shown, e := kernel.Step(w.c, w.Core, v, w.now)
			answers += fmt.Sprint(is, shown, e, ";")
			w.Core, w.Dirty = is, false
		}
		return answers
	}
	if first, second := row(), row(); first != second {
		t.Errorf("first:\n%s\nthen:\n%s", first, second)
	}
}
