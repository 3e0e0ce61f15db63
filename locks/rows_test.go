package locks_test

import (
	"fmt"
	"maps"
	"math"
	"slices"
	"testing"

	"ballast/api"
	"ballast/locks"
)

// claimed are the sections that a route locks: its path's, its flank's, its overlap's, told one by one.
func claimed(c api.Config, r int) []int {
	var list []int
	for section := range c.Sections {
		in := slices.Contains(c.Routes[r].Overlap, section)
		for _, s := range c.Routes[r].Path {
			in = in || s.Section == section
		}
		for _, n := range c.Routes[r].Flank {
			in = in || n.Section == section
		}
		if in {
			list = append(list, section)
		}
	}
	return list
}

// inherits tells whether the route may take what stands in the other one's overlap.
func inherits(c api.Config, r, other, section int) bool {
	return other != r && c.Routes[other].Exit == c.Routes[r].Entry && slices.Contains(c.Routes[other].Overlap, section)
}

// asked is what one of the calls is given, by its kind: q Request, c Cancel, s Restore, l Release, r Reset, t Throw.
type asked struct {
	kind        byte
	now, n, pos int
}

func (a asked) call() call {
	switch a.kind {
	case 'q':
		return request(a.now, a.n)
	case 'c':
		return cancel(a.now, a.n)
	case 's':
		return restore(a.n)
	case 'l':
		return release(a.now, a.n)
	case 'r':
		return reset(a.now, a.n)
	}
	return throw(a.now, a.n, a.pos)
}

// worked says another way what the call does to a state that fits: the error, or the state that it becomes.
func worked(c api.Config, k api.Core, a asked) (api.Core, api.Errno) {
	if a.kind != 's' && (a.now < 0 || a.now > api.MaxTime) {
		return k, api.ErrField
	}
	size := len(c.Routes)
	if a.kind == 'r' || a.kind == 't' {
		size = len(c.Sections)
	}
	if a.n < 0 || a.n >= size {
		return k, api.ErrIndex
	}
	was := k
	k = copied(k)
	switch a.kind {
	case 'q':
		if e := workedRequest(c, k, a.now, a.n); e != api.OK {
			return was, e
		}
		k.Dirty = true
	case 'c', 'l':
		let := map[byte][]int{'c': {1, 2, 3}, 'l': {5}}
		if !slices.Contains(let[a.kind], k.Routes[a.n].State) {
			return was, api.ErrLatch
		}
		k.Routes[a.n].State, k.Routes[a.n].Since, k.Routes[a.n].Mark, k.Dirty = 4, a.now, 0, true
	case 's':
		if k.Routes[a.n].State != 3 {
			return was, api.ErrLatch
		}
		k.Routes[a.n].State = 1
	case 'r':
		if k.Own[a.n] != -1 {
			return was, api.ErrLatch
		}
		k.Resets[a.n] = a.now + 1
	case 't':
		if e := workedThrow(c, k, a); e != api.OK {
			return was, e
		}
	}
	return k, api.OK
}

// workedRequest changes the state, if it answers OK; else perhaps some of it.
func workedRequest(c api.Config, k api.Core, now, r int) api.Errno {
	if k.Routes[r].State != 0 {
		return api.ErrLatch
	}
	for q, other := range c.Routes {
		if k.Routes[q].State != 0 && slices.Contains(claimed(c, r), c.Signals[other.Entry].Section) {
			return api.ErrApproach
		}
	}
	for _, section := range claimed(c, r) {
		owner := k.Own[section]
		if owner < 0 || owner > 0 && !inherits(c, r, owner-1, section) {
			return api.ErrLocked
		}
		k.Own[section] = r + 1
	}
	k.Routes[r] = api.RouteState{State: 1}
	for _, s := range c.Routes[r].Path {
		if c.Sections[s.Section].Kind == api.Point {
			command(&k.Points[s.Section], now, max(s.In, s.Out))
		}
		if crossing := slices.Index(c.Crossings, s.Section); crossing >= 0 {
			command(&k.Crossings[crossing], now, 1)
		}
		if line := c.Sections[s.Section].Line; line > 0 {
			if k.Lines[line].Ask == api.MaxTime {
				return api.ErrFull
			}
			k.Lines[line].Ask++
		}
	}
	for _, n := range c.Routes[r].Flank {
		command(&k.Points[n.Section], now, n.Pos)
	}
	return api.OK
}

func workedThrow(c api.Config, k api.Core, a asked) api.Errno {
	switch {
	case c.Sections[a.n].Kind != api.Point:
		return api.ErrIndex
	case a.pos < 1 || a.pos > 2:
		return api.ErrField
	case k.Own[a.n] != 0:
		return api.ErrLocked
	}
	command(&k.Points[a.n], a.now, a.pos)
	return api.OK
}

func command(m *api.Mover, now, cmd int) {
	if m.Cmd != cmd {
		m.Cmd, m.Other = cmd, now
	}
}

// ask throws a call; most of its numbers are numbers of something.
func (d *dice) ask(now int) asked {
	a := asked{kind: "qqqqclsrrt"[d.throw(10)], now: now, n: d.throw(9), pos: 1 + d.throw(2)}
	if d.throw(20) == 0 {
		a.n = d.some(odd...)
	}
	if d.throw(20) == 0 {
		a.now = d.some(wrongTimes...)
	}
	if d.throw(20) == 0 {
		a.pos = d.some(odd...)
	}
	return a
}

// kinds are the calls of asked.
const kinds = "qcslrt"

// P13.1, P13.2: states thrown together, and calls; each answer against the second working-out; what is taken leads to a state that fits. All errors come.
func TestThrown(t *testing.T) {
	found := map[string]int{}
	for _, text := range stations() {
		c := station(t, text)
		throws := dice(9)
		for range 12000 {
			k := thrown(&throws, c)
			a := throws.ask(throws.time())
			want, e := worked(c, k, a)
			if e == api.OK {
				taken(t, c, k, a.call(), func(k *api.Core) { *k = want })
			} else {
				refused(t, c, k, a.call(), e)
			}
			found[fmt.Sprint(string(a.kind), e)]++
		}
		if t.Failed() {
			t.Fatal("station:\n", text)
		}
	}
	for _, name := range []string{"q0", "q20", "q22", "q23", "q28", "q32", "q5", "c0", "c20", "c28", "c32", "s0", "s20", "s28", "l0", "l20", "l28", "l32", "r0", "r20", "r28", "r32", "t0", "t20", "t22", "t32"} {
		if found[name] < 10 {
			t.Errorf("%s came only %d times: %v", name, found[name], found)
		}
	}
}

// world is a station at work: calls are made, and what the layers above do to a state happens meanwhile.
type world struct {
	dice
	api.Core
	c     api.Config
	now   int
	given map[[2]int]int // what of a route's overlap went to another one: by the route and the section
	taken map[byte]int   // how many calls of each kind were taken
	heirs int            // how many sections were inherited
}

// does calls, and holds the answer; what is taken is the state from then on.
func (w *world) does(t *testing.T) {
	t.Helper()
	a := w.ask(w.now)
	was := copied(w.Core)
	want, e := worked(w.c, w.Core, a)
	got, err := a.call().do(w.c, w.Core)
	answers(t, a.call().name, got, err, want, e)
	if !same(was, w.Core) {
		t.Errorf("%s changed what it was given", a.call().name)
	}
	if err != api.OK {
		return
	}
	w.taken[a.kind]++
	w.Core = got
	if a.kind == 'q' {
		w.heir(t, was, a.n)
	}
}

// heir holds that what the route took was Free, or may be inherited. (P13.3)
func (w *world) heir(t *testing.T, was api.Core, r int) {
	t.Helper()
	maps.DeleteFunc(w.given, func(key [2]int, _ int) bool { return key[0] == r })
	for section, owner := range w.Own {
		before := was.Own[section]
		switch {
		case owner == before:
		case owner != r+1:
			t.Errorf("Request of %d gave section %d to %d", r, section, owner)
		case before < 0 || before > 0 && !inherits(w.c, r, before-1, section):
			t.Errorf("Request of %d took section %d from %d", r, section, before)
		case before > 0:
			w.given[[2]int{before - 1, section}]++
			w.heirs++
		}
	}
}

// goesOn lets something happen that is none of this layer's.
func (w *world) goesOn() {
	w.now += w.throw(3)
	w.Dirty = w.Dirty && w.throw(2) == 0
	section, r := w.throw(len(w.c.Sections)), w.throw(max(len(w.c.Routes), 1))
	if w.Own[section] == api.Cold && w.Resets[section] > 0 {
		w.Own[section], w.Resets[section] = api.Free, 0
	}
	if w.c.Sections[section].Line > 0 && w.throw(10) == 0 {
		switch w.Own[section] {
		case api.Free:
			w.Own[section] = api.Inbound
		case api.Inbound:
			w.Own[section] = api.Free
		}
	}
	if r < len(w.c.Routes) {
		w.route(r)
	}
}

// route lets a route go on: it is cleared, falls back, ends, and gives back what it has.
func (w *world) route(r int) {
	s, path := &w.Routes[r], w.c.Routes[r].Path
	switch {
	case s.State == api.Set:
		s.State = w.some(api.Set, api.Open)
	case s.State == api.Open:
		s.State = w.some(api.Open, api.Fallen, api.Ending)
	case s.State != api.Ending:
	case s.Next < len(path):
		if section := path[s.Next].Section; w.Own[section] == r+1 {
			w.Own[section], s.Mark = api.Free, w.now
		}
		s.Next++
	default:
		for section, owner := range w.Own {
			if owner == r+1 {
				w.Own[section] = api.Free
			}
		}
		*s = api.RouteState{}
	}
}

// power lets the power go, and come back.
func (w *world) power(t *testing.T) {
	t.Helper()
	text, e := locks.Save(w.Core)
	if e != api.OK {
		t.Error("Save: error ", e)
	}
	was := w.Core
	w.Core, e = locks.Load(w.c, w.now, text)
	want, _ := reading(w.c, w.now, text)
	answers(t, "Load", w.Core, e, want, api.OK)
	if !slices.Equal(w.Own, was.Own) {
		t.Error("other owners behind the power's return: ", w.Own, was.Own)
	}
}

// holds holds what must hold of the state at any time.
func (w *world) holds(t *testing.T) {
	t.Helper()
	if !locks.Fits(w.c, w.Core) {
		t.Errorf("doesn't fit: %+v", w.Core)
	}
	for r, s := range w.Routes {
		switch s.State {
		case api.Set, api.Open, api.Fallen:
			for _, section := range claimed(w.c, r) {
				if w.Own[section] != r+1 && w.given[[2]int{r, section}] == 0 {
					t.Errorf("route %d in state %d doesn't own section %d: %v", r, s.State, section, w.Own)
				}
			}
		case api.Ending, api.Held:
			for _, step := range w.c.Routes[r].Path[s.Next:] {
				if w.Own[step.Section] != r+1 {
					t.Errorf("route %d in state %d, Next %d, doesn't own section %d: %v", r, s.State, s.Next, step.Section, w.Own)
				}
			}
		}
	}
	for section, owner := range w.Own {
		if owner > 0 && (w.Routes[owner-1].State == api.Idle || !slices.Contains(claimed(w.c, owner-1), section)) {
			t.Errorf("section %d is owned by route %d, which doesn't lock it: %v", section, owner-1, w.Routes)
		}
	}
}

func newWorld(t *testing.T, seed int, text string) *world {
	t.Helper()
	c := station(t, text)
	return &world{dice: dice(seed), Core: locks.New(c, 0), c: c, given: map[[2]int]int{}, taken: map[byte]int{}}
}

// P13.2, P13.3, P13.4: rows of calls, of what happens meanwhile, and of losses of power: no section has two owners, a Set route owns all that it locks (but for what of its overlap another one inherited), a refused call changes nothing.
func TestRows(t *testing.T) {
	taken, heirs := map[byte]int{}, 0
	for _, text := range stations() {
		for seed := range 6 {
			w := newWorld(t, seed, text)
			for range 1500 {
				w.does(t)
				w.holds(t)
				w.goesOn()
				if w.throw(300) == 0 {
					w.power(t)
				}
				w.holds(t)
			}
			if t.Failed() {
				t.Fatal("seed ", seed, ", station:\n", text)
			}
			for kind, n := range w.taken {
				taken[kind] += n
			}
			heirs += w.heirs
		}
	}
	for _, kind := range []byte(kinds) {
		if taken[kind] < 50 {
			t.Errorf("%c was taken only %d times", kind, taken[kind])
		}
	}
	if heirs < 50 {
		t.Error("too little was inherited: ", heirs)
	}
}

// P13.3: requests alone, one behind the other in any order, on a station where all is Free: no two Set routes own one section, and each owns all but what another one inherited.
func TestRequestsOnly(t *testing.T) {
	for _, text := range stations() {
		c := station(t, text)
		for seed := range 200 {
			throws := dice(seed)
			k, owners := empty(c), map[int][]int{}
			for range 20 {
				r := throws.throw(len(c.Routes) + 1)
				got, e := locks.Request(c, k, 3, r)
				if e != api.OK {
					answers(t, "refused", got, e, k, e)
					continue
				}
				for _, section := range claimed(c, r) {
					if own := owners[section]; len(own) > 0 && !inherits(c, r, own[len(own)-1], section) {
						t.Errorf("route %d took section %d of %v", r, section, own)
					}
					owners[section] = append(owners[section], r)
				}
				k = got
				for section, own := range owners {
					if k.Own[section] != own[len(own)-1]+1 {
						t.Errorf("section %d of %v: %v", section, own, k.Own)
					}
				}
			}
		}
	}
}

// R4: the same rows give the same answers.
func TestSameAgain(t *testing.T) {
	row := func() string {
		w, answers := newWorld(t, 7, fork), ""
		for range 400 {
			w.does(t)
			w.goesOn()
			text, e := locks.Save(w.Core)
			answers += fmt.Sprint(w.Core, []byte(text), e, ";")
		}
		return answers
	}
	if first, second := row(), row(); first != second {
		t.Errorf("first:\n%s\nthen:\n%s", first, second)
	}
}

// spare is the list with memory behind it, which is filled.
func spare[T any](list []T, fill T) []T {
	list = append(append([]T{}, list...), fill, fill, fill)
	return list[:len(list)-3]
}

// whole is the list with the memory behind it.
func whole[T any](list []T) []T { return list[:cap(list)] }

// spoil writes over the list and the memory behind it.
func spoil[T any](list []T, with T) {
	for i := range whole(list) {
		whole(list)[i] = with
	}
}

// spared is the state with memory behind its lists.
func spared(k api.Core) api.Core {
	far := api.Mover{Cmd: 71, Other: 72}
	return api.Core{
		Own: spare(k.Own, 73), Routes: spare(k.Routes, api.RouteState{State: 74}), Points: spare(k.Points, far),
		Crossings: spare(k.Crossings, far), Lines: spare(k.Lines, api.LineState{Ask: 75}), Resets: spare(k.Resets, 76), Dirty: k.Dirty,
	}
}

// sparedConfig is the configuration with memory behind its lists.
func sparedConfig(c api.Config) api.Config {
	c.Sections, c.Joints = spare(c.Sections, api.Section{Kind: 81}), spare(c.Joints, api.Joint{A: 82})
	c.Signals, c.Crossings = spare(c.Signals, api.Signal{Section: 83}), spare(c.Crossings, 84)
	c.Routes = spare(c.Routes, api.Route{Entry: 85})
	for i := range c.Routes {
		r := &c.Routes[i]
		r.Path, r.Flank, r.Overlap = spare(r.Path, api.Step{Section: 86}), spare(r.Flank, api.Need{Section: 87}), spare(r.Overlap, 88)
	}
	return c
}

// memory tells all that stands in the state's lists, and behind them.
func memory(k api.Core) string {
	return fmt.Sprint(whole(k.Own), whole(k.Routes), whole(k.Points), whole(k.Crossings), whole(k.Lines), whole(k.Resets), k.Dirty)
}

// memoryOf tells all that stands in the configuration's lists, and behind them.
func memoryOf(c api.Config) string {
	text := fmt.Sprint(whole(c.Sections), whole(c.Joints), whole(c.Signals), whole(c.Crossings), whole(c.Routes), c.Timing)
	for _, r := range c.Routes {
		text += fmt.Sprint(whole(r.Path), whole(r.Flank), whole(r.Overlap))
	}
	return text
}

// apart holds that no two lists of the state share memory: each is written over, and the others stay.
func apart(t *testing.T, name string, k api.Core) {
	t.Helper()
	lists := []func(k api.Core){
		func(k api.Core) { spoil(k.Own, -99) },
		func(k api.Core) { spoil(k.Resets, -98) },
		func(k api.Core) { spoil(k.Points, api.Mover{Cmd: -97}) },
		func(k api.Core) { spoil(k.Crossings, api.Mover{Cmd: -96}) },
		func(k api.Core) { spoil(k.Routes, api.RouteState{State: -95}) },
		func(k api.Core) { spoil(k.Lines, api.LineState{Ask: -94}) },
	}
	want := copied(k)
	for _, write := range lists {
		write(k)
		write(want)
		if !same(k, want) {
			t.Errorf("%s: lists share memory: %+v", name, k)
		}
	}
}

// P13.2, R5: each call, taken and refused for each reason: what is handed in stays as it is, its spare memory, too, also when the answer is written over; the answer's lists share nothing.
func TestMemory(t *testing.T) {
	right := station(t, double)
	ready := full(right)
	ready.Own[4], ready.Own[0] = api.Cold, 2
	ready.Routes[2].State, ready.Routes[5].State = api.Fallen, api.Held
	barred := full(right)
	barred.Own[3], barred.Own[5], barred.Lines[1].Ask = api.Cold, api.Inbound, api.MaxTime
	odds := changed(ready, func(k *api.Core) { k.Own = k.Own[1:] })
	calls := []call{cancel(5, 2), cancel(5, 1), cancel(-1, 2), restore(2), restore(99), release(5, 5), release(5, 2), reset(5, 4), reset(5, 0), throw(5, 1, 2), throw(5, 5, 1), throw(5, 2, 1), throw(5, 1, 0)}
	for r := range right.Routes {
		calls = append(calls, request(5, r))
	}
	errs := map[api.Errno]int{}
	for _, from := range []api.Core{ready, barred, odds, {}} {
		for _, a := range calls {
			c, k := sparedConfig(right), spared(from)
			wasConfig, was := memoryOf(c), memory(k)
			got, e := a.do(c, k)
			errs[e]++
			want := copied(got)
			apart(t, a.name, got)
			if memory(k) != was || memoryOf(c) != wasConfig {
				t.Errorf("%s changed what it was given:\n%s\n%s; was\n%s\n%s", a.name, memory(k), memoryOf(c), was, wasConfig)
			}
			again, e2 := a.do(c, k)
			answers(t, a.name+" again", again, e2, want, e)
		}
	}
	for _, e := range []api.Errno{api.OK, api.ErrState, api.ErrField, api.ErrIndex, api.ErrLatch, api.ErrLocked, api.ErrApproach, api.ErrFull} {
		if errs[e] == 0 {
			t.Errorf("no call answered error %d: %v", e, errs)
		}
	}
}

// R5: New, Fits, Save and Load leave what they are given, and answer new memory.
func TestMemoryOfStates(t *testing.T) {
	c := sparedConfig(station(t, double))
	k := spared(full(c))
	wasConfig, was := memoryOf(c), memory(k)
	text, e := locks.Save(k)
	if e != api.OK || !locks.Fits(c, k) {
		t.Fatal("no right state: ", e)
	}
	for range 2 {
		first, second := locks.New(c, 5), locks.New(c, 5)
		apart(t, "New", first)
		loaded, e := locks.Load(c, 5, text)
		apart(t, "Load", loaded)
		again, _ := locks.Load(c, 5, text)
		want, _ := reading(c, 5, text)
		answers(t, "Load again", again, e, want, api.OK)
		answers(t, "New again", locks.New(c, 5), api.OK, second, api.OK)
	}
	if memory(k) != was || memoryOf(c) != wasConfig {
		t.Errorf("what was given was changed:\n%s\n%s; was\n%s\n%s", memory(k), memoryOf(c), was, wasConfig)
	}
}

// R1: numbers from anywhere, states from anywhere, configurations that say nothing: no call panics.
func TestNothingPanics(t *testing.T) {
	numbers := []int{0, 1, 4, 99, -1, math.MinInt, math.MaxInt}
	configs := []api.Config{{}, {Routes: make([]api.Route, 2)}, {Sections: make([]api.Section, 2), Crossings: []int{9}}, station(t, chapter)}
	for _, c := range configs {
		for _, k := range []api.Core{{}, locks.New(c, 5), {Own: numbers, Lines: make([]api.LineState, 9)}} {
			for _, now := range numbers {
				for _, n := range numbers {
					for _, a := range callsOf(now, n) {
						a.do(c, k)
					}
					locks.Throw(c, k, now, n, n)
				}
				locks.Load(c, now, "")
				locks.Load(c, now, "\x00\x01")
			}
			locks.Save(k)
			locks.Fits(c, k)
		}
	}
}
