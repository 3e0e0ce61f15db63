package locks_test

import (
	"fmt"
	"math"
	"slices"
	"testing"

	"ballast/api"
	"ballast/locks"
)

// call is one of the calls, with its now and its numbers.
type call struct {
	name string
	do   func(c api.Config, k api.Core) (api.Core, api.Errno)
}

func request(now, r int) call {
	return call{fmt.Sprintf("Request(%d, %d)", now, r), func(c api.Config, k api.Core) (api.Core, api.Errno) { return locks.Request(c, k, now, r) }}
}

func cancel(now, r int) call {
	return call{fmt.Sprintf("Cancel(%d, %d)", now, r), func(c api.Config, k api.Core) (api.Core, api.Errno) { return locks.Cancel(c, k, now, r) }}
}

func restore(r int) call {
	return call{fmt.Sprintf("Restore(%d)", r), func(c api.Config, k api.Core) (api.Core, api.Errno) { return locks.Restore(c, k, r) }}
}

func release(now, r int) call {
	return call{fmt.Sprintf("Release(%d, %d)", now, r), func(c api.Config, k api.Core) (api.Core, api.Errno) { return locks.Release(c, k, now, r) }}
}

func reset(now, section int) call {
	return call{fmt.Sprintf("Reset(%d, %d)", now, section), func(c api.Config, k api.Core) (api.Core, api.Errno) { return locks.Reset(c, k, now, section) }}
}

func throw(now, section, pos int) call {
	return call{fmt.Sprintf("Throw(%d, %d, %d)", now, section, pos), func(c api.Config, k api.Core) (api.Core, api.Errno) { return locks.Throw(c, k, now, section, pos) }}
}

// timed are the calls that a now is handed in to.
func timed(now, n int) []call {
	return []call{request(now, n), cancel(now, n), release(now, n), reset(now, n), throw(now, n, api.Normal), throw(now, n, 3)}
}

// callsOf are all calls with a now and a number.
func callsOf(now, n int) []call { return append(timed(now, n), restore(n)) }

// taken holds that the call is OK, and what it does to a copy of the state; the state that comes fits. (P13.2)
func taken(t *testing.T, c api.Config, k api.Core, a call, does func(k *api.Core)) api.Core {
	t.Helper()
	got, e := a.do(c, k)
	answers(t, a.name, got, e, changed(k, does), api.OK)
	if !locks.Fits(c, got) {
		t.Errorf("%s: doesn't fit: %+v", a.name, got)
	}
	return got
}

// refused holds that the call answers the error, and the state as it was. (P13.2)
func refused(t *testing.T, c api.Config, k api.Core, a call, want api.Errno) {
	t.Helper()
	got, e := a.do(c, k)
	answers(t, a.name, got, e, k, want)
}

// The chapter's first example.
func TestFirstExample(t *testing.T) {
	c := station(t, chapter)
	k := locks.New(c, 5)
	if !slices.Equal(k.Own, []int{-1, -1, -1, -1, -1}) {
		t.Error("New: ", k.Own)
	}
	refused(t, c, k, request(5, 0), api.ErrLocked)
	k.Own[1], k.Own[2] = api.Free, api.Free
	refused(t, c, k, request(5, 1), api.ErrLocked)
	k = taken(t, c, k, request(5, 0), func(k *api.Core) {
		k.Own = []int{-1, 1, 1, -1, -1}
		k.Routes[0] = api.RouteState{State: api.Set}
		k.Points[1] = api.Mover{Cmd: 1, Other: 5}
		k.Dirty = true
	})
	refused(t, c, k, request(5, 0), api.ErrLatch)
	k.Own[4] = api.Free
	taken(t, c, k, request(5, 1), func(k *api.Core) {
		k.Own = []int{-1, 1, 1, -1, 2}
		k.Routes[1] = api.RouteState{State: api.Set}
		k.Lines[1].Ask = 1
	})
}

// The chapter's second example.
func TestSecondExample(t *testing.T) {
	c := station(t, chapter)
	k := locks.New(c, 5)
	k.Own[1], k.Own[2], k.Own[4] = api.Free, api.Free, api.Free
	k, e := locks.Request(c, k, 5, 1)
	if e != api.OK {
		t.Fatal(e)
	}
	refused(t, c, k, request(5, 0), api.ErrApproach)
}

// full is a state of the station double in which every number has a value of its own; all sections are Free, all routes Idle.
func full(c api.Config) api.Core {
	k := empty(c)
	for i := range k.Points {
		k.Points[i] = api.Mover{Other: 30 + i}
		k.Resets[i] = 60 + i
	}
	for i := range k.Routes {
		k.Routes[i] = api.RouteState{Since: 100 + i, Next: len(c.Routes[i].Path), Mark: 200 + i}
	}
	for i := range k.Crossings {
		k.Crossings[i] = api.Mover{Cmd: 2, Other: 80 + i}
	}
	for i := range k.Lines {
		k.Lines[i] = api.LineState{Ask: 10 + i, Done: 20 + i, Grant: 30 + i, Told: 40 + i, Peer: api.Block{Ask: 50 + i, Done: 60 + i, Grant: 70 + i}, Since: 80 + i}
	}
	return k
}

// P13.1: what Request changes, and what it leaves: owners of path, flank and overlap; the route, whose old numbers go; the points of path and flank; the crossings of the path alone; the line's Ask.
func TestRequest(t *testing.T) {
	c := station(t, double)
	k := full(c)
	set := api.RouteState{State: api.Set}
	for _, now := range rightTimes {
		closed := api.Mover{Cmd: 1, Other: now}
		normal, reverse := closed, api.Mover{Cmd: 2, Other: now}
		taken(t, c, k, request(now, 0), func(k *api.Core) {
			k.Own[1], k.Own[2], k.Own[3], k.Own[5] = 1, 1, 1, 1
			k.Routes[0], k.Points[1], k.Points[5], k.Crossings[1], k.Dirty = set, normal, normal, closed, true
		})
		taken(t, c, k, request(now, 1), func(k *api.Core) {
			k.Own[1], k.Own[5], k.Own[6] = 2, 2, 2
			k.Routes[1], k.Points[1], k.Points[5], k.Crossings[0], k.Crossings[2], k.Dirty = set, reverse, reverse, closed, closed, true
		})
		taken(t, c, k, request(now, 3), func(k *api.Core) {
			k.Own[7] = 4
			k.Routes[3], k.Lines[1].Ask, k.Dirty = set, 12, true
		})
		taken(t, c, k, request(now, 4), func(k *api.Core) {
			k.Own[1], k.Own[2], k.Own[5] = 5, 5, 5
			k.Routes[4], k.Points[1], k.Points[5], k.Crossings[1], k.Dirty = set, normal, normal, closed, true
		})
		taken(t, c, k, request(now, 6), func(k *api.Core) {
			k.Own[3], k.Routes[6], k.Dirty = 7, set, true
		})
	}
}

// P13.1: a Diamond, whose way asks for no position, and the two Points behind it, the one in the path, the other one of its flank.
func TestRequestOverDiamond(t *testing.T) {
	c := station(t, star)
	taken(t, c, empty(c), request(7, 0), func(k *api.Core) {
		k.Own = []int{0, 1, 1, 1, 0, 1, 0, 1}
		k.Routes[0].State = api.Set
		k.Points[5], k.Points[3] = api.Mover{Cmd: 1, Other: 7}, api.Mover{Cmd: 2, Other: 7}
		k.Crossings[0] = api.Mover{Cmd: 1, Other: 7}
		k.Dirty = true
	})
}

// P13.1: movers that have their command already stay as they are, with the cycle in which another one came last; those with another one don't.
func TestRequestLeavesCommands(t *testing.T) {
	c := station(t, double)
	k := full(c)
	k.Points[1], k.Points[5] = api.Mover{Cmd: 1, Other: 3}, api.Mover{Cmd: 2, Other: 4}
	k.Crossings[1] = api.Mover{Cmd: 1, Other: -1}
	taken(t, c, k, request(90, 0), func(k *api.Core) {
		k.Own[1], k.Own[2], k.Own[3], k.Own[5] = 1, 1, 1, 1
		k.Routes[0], k.Points[5], k.Dirty = api.RouteState{State: api.Set}, api.Mover{Cmd: 1, Other: 90}, true
	})
	taken(t, c, k, request(90, 1), func(k *api.Core) {
		k.Own[1], k.Own[5], k.Own[6] = 2, 2, 2
		k.Routes[1], k.Points[1], k.Dirty = api.RouteState{State: api.Set}, api.Mover{Cmd: 2, Other: 90}, true
		k.Crossings[0], k.Crossings[2] = api.Mover{Cmd: 1, Other: 90}, api.Mover{Cmd: 1, Other: 90}
	})
}

// P13.1: a line's Ask goes up to MaxTime; from there no route over it is locked, and no other line's Ask plays a part. Lines are told by their numbers, not by their sections'.
func TestRequestOfLines(t *testing.T) {
	c := station(t, fork)
	lineOf := map[int]int{4: 2, 5: 3, 6: 3}
	for r := range c.Routes {
		for line := range 4 {
			for _, ask := range []int{0, 1, api.MaxTime - 1, api.MaxTime} {
				k := empty(c)
				k.Lines[line].Ask = ask
				if lineOf[r] == line && line > 0 && ask == api.MaxTime {
					refused(t, c, k, request(8, r), api.ErrFull)
					continue
				}
				got, e := locks.Request(c, k, 8, r)
				if lineOf[r] > 0 {
					k.Lines[lineOf[r]].Ask++
				}
				if e != api.OK || !slices.Equal(got.Lines, k.Lines) {
					t.Errorf("route %d, line %d's Ask %d: error %d, %v", r, line, ask, e, got.Lines)
				}
			}
		}
	}
	k := empty(c)
	k.Lines[3] = api.LineState{Done: api.MaxTime, Grant: api.MaxTime, Told: api.MaxTime, Peer: api.Block{Ask: api.MaxTime, Done: api.MaxTime, Grant: api.MaxTime}, Since: api.MaxTime + 1}
	if got, e := locks.Request(c, k, 8, 5); e != api.OK || got.Lines[3].Ask != 1 {
		t.Error("a line's other numbers at MaxTime: ", e, got.Lines)
	}
}

// locked are the sections that each route of the station fork locks.
var locked = [][]int{{1, 3, 5}, {2, 3, 5}, {3, 6}, {3, 6}, {4}, {0, 5}, {0, 5}, {1, 3, 5, 6}}

// heirs are what of the station fork may be inherited: by the owner, the section and the route that asks.
var heirs = map[[3]int]int{{0, 3, 2}: 1, {1, 3, 3}: 1, {7, 5, 5}: 1}

// P13.1, P13.3: each section of the station fork with each owner, each route asked for: only what is Free, or may be inherited, goes to it.
func TestRequestOfOwned(t *testing.T) {
	c := station(t, fork)
	for section := range c.Sections {
		for owner := api.Inbound; owner <= len(c.Routes); owner++ {
			for r := range c.Routes {
				k := empty(c)
				k.Own[section] = owner
				got, e := locks.Request(c, k, 6, r)
				want := api.OK
				if owner != api.Free && slices.Contains(locked[r], section) && heirs[[3]int{owner - 1, section, r}] == 0 {
					want = api.ErrLocked
				}
				if e != want {
					t.Errorf("section %d of %d, route %d: error %d; want %d", section, owner, r, e, want)
				}
				if e != api.OK {
					answers(t, "refused", got, e, k, want)
					continue
				}
				for s, now := range got.Own {
					if slices.Contains(locked[r], s) && now != r+1 || !slices.Contains(locked[r], s) && now != k.Own[s] {
						t.Errorf("section %d of %d, route %d: %v", section, owner, r, got.Own)
					}
				}
			}
		}
	}
}

// P13.3: two routes in a row: the second one takes the overlap of the first one, which keeps the rest; the first one's other sections it can't take.
func TestInherit(t *testing.T) {
	c := station(t, fork)
	k, e := locks.Request(c, empty(c), 3, 0)
	if e != api.OK {
		t.Fatal(e)
	}
	k = taken(t, c, k, request(4, 2), func(k *api.Core) {
		k.Own = []int{0, 1, 0, 3, 0, 1, 3}
		k.Routes[2].State = api.Set
		k.Points[3] = api.Mover{Cmd: 1, Other: 4}
		k.Crossings[0] = api.Mover{Cmd: 1, Other: 4}
	})
	// The route 3 would come over the section 3 from the other track; what is inherited once may not go on to another route.
	refused(t, c, k, request(5, 3), api.ErrLocked)
	// The first of the two sections that it needs is its own heritage, the other one is taken.
	k, e = locks.Request(c, empty(c), 3, 1)
	if e != api.OK {
		t.Fatal(e)
	}
	k.Own[6] = api.Cold
	refused(t, c, k, request(4, 3), api.ErrLocked)
	refused(t, c, k, request(4, 2), api.ErrLocked)
	k.Own[6] = 2
	refused(t, c, k, request(4, 3), api.ErrLocked)
	k.Own[6] = api.Free
	if _, e := locks.Request(c, k, 4, 3); e != api.OK {
		t.Error("the overlap isn't inherited: ", e)
	}
}

// approaches are the approaches of the station fork's routes.
var approaches = []int{0, 0, 1, 2, 6, 1, 2, 4}

// P13.1: each route of the station fork in each state, each other one asked for: none that locks the approach of a locked one.
func TestRequestOfApproaches(t *testing.T) {
	c := station(t, fork)
	for q, approach := range approaches {
		for state := api.Idle; state <= api.Held; state++ {
			for r := range c.Routes {
				k := empty(c)
				k.Routes[q].State = state
				want := api.OK
				switch {
				case state == api.Idle:
				case q == r:
					want = api.ErrLatch
				case slices.Contains(locked[r], approach):
					want = api.ErrApproach
				}
				if got, e := locks.Request(c, k, 6, r); e != want || e != api.OK && !same(got, k) {
					t.Errorf("route %d in state %d, route %d asked for: error %d; want %d", q, state, r, e, want)
				}
			}
		}
	}
}

// P13.1: where several errors of Request apply, the first one of its list is told; the next one, when that is put right.
func TestRequestErrors(t *testing.T) {
	c := station(t, fork)
	k := empty(c)
	// The route 5 (path 5, 0 on the line 3; its approach is 1) with all that can speak against it, the route 0's approach being 0.
	k.Own[5], k.Own[0] = api.Cold, 8
	k.Routes[5].State, k.Routes[0].State = api.Held, api.Ending
	k.Lines[3].Ask = api.MaxTime
	k.Resets[6] = -1
	refused(t, c, k, request(-1, 99), api.ErrState)
	k.Resets[6] = 0
	refused(t, c, k, request(-1, 99), api.ErrField)
	refused(t, c, k, request(9, 99), api.ErrIndex)
	refused(t, c, k, request(9, 5), api.ErrLatch)
	k.Routes[5].State = api.Idle
	refused(t, c, k, request(9, 5), api.ErrApproach)
	k.Routes[0].State = api.Idle
	refused(t, c, k, request(9, 5), api.ErrLocked)
	k.Own[5] = api.Free
	refused(t, c, k, request(9, 5), api.ErrLocked)
	k.Own[0] = api.Free
	refused(t, c, k, request(9, 5), api.ErrFull)
	k.Lines[3].Ask--
	taken(t, c, k, request(9, 5), func(k *api.Core) {
		k.Own[5], k.Own[0] = 6, 6
		k.Routes[5].State, k.Lines[3].Ask, k.Dirty = api.Set, api.MaxTime, true
		k.Points[5] = api.Mover{Cmd: 1, Other: 9}
	})
}

// P13.1: of each state, what Cancel, Restore and Release do to it, Dirty or not; the other routes, and all else, stay.
func TestStatesOfRoutes(t *testing.T) {
	c := station(t, double)
	for _, now := range rightTimes {
		for state := api.Idle; state <= api.Held; state++ {
			for _, dirty := range []bool{false, true} {
				k := full(c)
				k.Own = []int{-2, 1, 2, 3, -1, 0, 4, 5}
				k.Routes[2] = api.RouteState{State: state, Since: 70, Next: 1, Mark: 71}
				k.Routes[0].State, k.Routes[4].State, k.Routes[5].State = api.Fallen, api.Open, api.Held
				k.Dirty = dirty
				ends := func(k *api.Core) {
					k.Routes[2], k.Dirty = api.RouteState{State: api.Ending, Since: now, Next: 1}, true
				}
				if state == api.Set || state == api.Open || state == api.Fallen {
					taken(t, c, k, cancel(now, 2), ends)
				} else {
					refused(t, c, k, cancel(now, 2), api.ErrLatch)
				}
				if state == api.Held {
					taken(t, c, k, release(now, 2), ends)
				} else {
					refused(t, c, k, release(now, 2), api.ErrLatch)
				}
				if state == api.Fallen {
					taken(t, c, k, restore(2), func(k *api.Core) { k.Routes[2].State = api.Set })
				} else {
					refused(t, c, k, restore(2), api.ErrLatch)
				}
			}
		}
	}
}

// P13.1: of each owner, what Reset and Throw do, Dirty or not.
func TestSectionsOfOwners(t *testing.T) {
	c := station(t, double)
	for _, now := range rightTimes {
		for owner := api.Inbound; owner <= len(c.Routes); owner++ {
			for _, dirty := range []bool{false, true} {
				k := full(c)
				k.Own, k.Dirty = []int{0, 1, 2, 3, -1, owner, 4, 5}, dirty
				if owner == api.Cold {
					taken(t, c, k, reset(now, 5), func(k *api.Core) { k.Resets[5] = now + 1 })
				} else {
					refused(t, c, k, reset(now, 5), api.ErrLatch)
				}
				for _, pos := range []int{api.Normal, api.Reverse} {
					if owner == api.Free {
						taken(t, c, k, throw(now, 5, pos), func(k *api.Core) { k.Points[5] = api.Mover{Cmd: pos, Other: now} })
					} else {
						refused(t, c, k, throw(now, 5, pos), api.ErrLocked)
					}
				}
			}
		}
	}
}

// P13.1: a section that is reset again is asked for anew; a point that has the command already stays as it is.
func TestAgain(t *testing.T) {
	c := station(t, double)
	k := locks.New(c, 4)
	k = taken(t, c, k, reset(9, 7), func(k *api.Core) { k.Resets[7] = 10 })
	k = taken(t, c, k, reset(0, 7), func(k *api.Core) { k.Resets[7] = 1 })
	k = taken(t, c, k, reset(api.MaxTime, 0), func(k *api.Core) { k.Resets[0] = api.MaxTime + 1 })
	k.Own[1] = api.Free
	k = taken(t, c, k, throw(20, 1, api.Reverse), func(k *api.Core) { k.Points[1] = api.Mover{Cmd: 2, Other: 20} })
	k = taken(t, c, k, throw(30, 1, api.Reverse), func(*api.Core) {})
	taken(t, c, k, throw(30, 1, api.Normal), func(k *api.Core) { k.Points[1] = api.Mover{Cmd: 1, Other: 30} })
}

// P13.1: Throw's errors, the first of several standing first: a section that is no Point, ahead of the position, ahead of the owner.
func TestThrowErrors(t *testing.T) {
	c := station(t, double)
	k := locks.New(c, 4)
	k.Own[5] = api.Free
	for section, s := range c.Sections {
		for _, pos := range append([]int{0, 1, 2, 3}, odd...) {
			want := api.OK
			switch {
			case s.Kind != api.Point:
				want = api.ErrIndex
			case pos != 1 && pos != 2:
				want = api.ErrField
			case section == 1:
				want = api.ErrLocked
			}
			if want != api.OK {
				refused(t, c, k, throw(7, section, pos), want)
			} else if _, e := locks.Throw(c, k, 7, section, pos); e != api.OK {
				t.Errorf("section %d to %d: error %d", section, pos, e)
			}
			refused(t, c, k, throw(-1, section, pos), api.ErrField)
		}
	}
	d := station(t, star)
	free := empty(d)
	refused(t, d, free, throw(7, 1, api.Normal), api.ErrIndex)
	refused(t, d, free, throw(7, 6, api.Reverse), api.ErrIndex)
}

// P13.1: numbers of routes and sections that there are not: below nought, at the lists' ends, far beyond; ahead of all other errors but those of the state and of now.
func TestIndices(t *testing.T) {
	for _, text := range stations() {
		c := station(t, text)
		k := thrownOf(c)
		sections, routes := len(c.Sections), len(c.Routes)
		for _, n := range append([]int{sections, sections + 1, 16, 17}, odd...) {
			if n >= 0 && n < sections {
				continue
			}
			refused(t, c, k, reset(7, n), api.ErrIndex)
			refused(t, c, k, throw(7, n, api.Normal), api.ErrIndex)
			refused(t, c, k, throw(7, n, 9), api.ErrIndex)
		}
		for _, n := range append([]int{routes, routes + 1, 12, 13}, odd...) {
			if n >= 0 && n < routes {
				continue
			}
			refused(t, c, k, request(7, n), api.ErrIndex)
			refused(t, c, k, cancel(7, n), api.ErrIndex)
			refused(t, c, k, restore(n), api.ErrIndex)
			refused(t, c, k, release(7, n), api.ErrIndex)
		}
	}
}

// thrownOf is one state that fits, thrown together.
func thrownOf(c api.Config) api.Core {
	throws := dice(11)
	return thrown(&throws, c)
}

// P13.1: a now that isn't 0 to MaxTime is an error ahead of all others but the state's, for whatever number; with a state that doesn't fit all is ErrState.
func TestNows(t *testing.T) {
	c := station(t, double)
	k := full(c)
	wrong := changed(k, func(k *api.Core) { k.Own[0] = 8 })
	short := changed(k, func(k *api.Core) { k.Points = k.Points[1:] })
	for _, n := range []int{0, 1, 5, 7, 8, -1, 99, math.MinInt, math.MaxInt} {
		for _, now := range wrongTimes {
			for _, a := range timed(now, n) {
				refused(t, c, k, a, api.ErrField)
				refused(t, c, wrong, a, api.ErrState)
				refused(t, c, short, a, api.ErrState)
			}
		}
		for _, now := range rightTimes {
			for _, a := range callsOf(now, n) {
				refused(t, c, wrong, a, api.ErrState)
				refused(t, c, short, a, api.ErrState)
			}
		}
	}
}

// P13.1, P13.2, R1, R3: states that are far from fitting come back as they are.
func TestStatesFarFromFitting(t *testing.T) {
	c := station(t, double)
	for _, k := range []api.Core{
		{},
		{Dirty: true},
		{Own: []int{math.MinInt, 3}, Routes: make([]api.RouteState, 7), Lines: make([]api.LineState, 1)},
		{Own: make([]int, 0, 5), Points: make([]api.Mover, 8), Crossings: make([]api.Mover, 30), Resets: make([]int, 1000)},
	} {
		if locks.Fits(c, k) {
			t.Errorf("fits: %+v", k)
		}
		for _, n := range []int{0, 1, 7, -1, math.MaxInt} {
			for _, a := range callsOf(5, n) {
				refused(t, c, k, a, api.ErrState)
			}
		}
	}
}
