package kernel_test

import (
	"fmt"
	"math"
	"slices"
	"testing"

	"ballast/api"
	"ballast/kernel"
	"ballast/locks"
)

// P14.1: a crossing is commanded to open where its section is Free, else to close, whoever owns it; one that has its command keeps it as it is, with its Other; it isn't Dirty for that.
func TestCrossings(t *testing.T) {
	c := station(t, double)
	for owner := api.Inbound; owner <= len(c.Routes); owner++ {
		for _, was := range []api.Mover{{}, {Cmd: 1, Other: 3}, {Cmd: 2, Other: 4}, {Cmd: 1, Other: -1}, {Cmd: 2, Other: api.MaxTime}} {
			for _, now := range rightTimes {
				for n, section := range c.Crossings {
					k := empty(c)
					k.Own[section], k.Crossings[n] = owner, was
					cmd := 1
					if owner == api.Free {
						cmd = 2
					}
					steps(t, fmt.Sprintf("crossing %d as %v, section of %d", n, was, owner), c, k, worst(c), now, make([]int, 5), func(k *api.Core) {
						if was.Cmd != cmd {
							k.Crossings[n] = api.Mover{Cmd: cmd, Other: now}
						}
					})
				}
			}
		}
	}
}

// P14.1: what a route gives back counts for the crossings in the same cycle; what is reset counts in the next one.
func TestCrossingsBetween(t *testing.T) {
	c := station(t, double)
	k := empty(c)
	k.Own[2], k.Own[6], k.Resets[6] = 1, api.Cold, 10
	k.Routes[0] = api.RouteState{State: api.Ending, Since: 100, Next: 1}
	k.Crossings = []api.Mover{{Cmd: 1, Other: 5}, {Cmd: 1, Other: 6}, {Cmd: 2, Other: 7}}
	stop := make([]int, 5)
	k = steps(t, "a cycle", c, k, calm(c, k, 200), 200, stop, func(k *api.Core) {
		k.Own[2], k.Own[6], k.Resets[6], k.Dirty = api.Free, api.Free, 0, true
		k.Routes[0] = api.RouteState{}
		k.Crossings[1] = api.Mover{Cmd: 2, Other: 200}
	})
	steps(t, "the next one", c, k, calm(c, k, 201), 201, stop, func(k *api.Core) { k.Crossings[0] = api.Mover{Cmd: 2, Other: 201} })
}

// P14.1: a section whose reset was asked for goes Free, if it is Cold, and seen clear with a stamp at least as great as Resets; whatever now is.
func TestResets(t *testing.T) {
	c := station(t, double)
	stop := make([]int, 5)
	for _, asked := range []int{1, 2, 60, api.MaxTime, api.MaxTime + 1} {
		for _, stamp := range []int{math.MinInt, -1, 0, 1, 2, 59, 60, 61, api.MaxTime - 1, api.MaxTime, api.MaxTime + 1, math.MaxInt} {
			for _, look := range []api.Look{{Stamp: stamp, Valid: true}, {Stamp: stamp}, {Value: 1, Stamp: stamp, Valid: true}, {Value: -1, Stamp: stamp, Valid: true}} {
				for _, dirty := range []bool{false, true} {
					k := empty(c)
					k.Own[4], k.Resets[4], k.Dirty = api.Cold, asked, dirty
					v := seen(worst(c), func(v *api.View) { v.Occ[4] = look })
					steps(t, fmt.Sprintf("Resets %d, look %v", asked, look), c, k, v, 61, stop, func(k *api.Core) {
						if look.Valid && look.Value == 0 && stamp >= asked {
							k.Own[4], k.Resets[4], k.Dirty = api.Free, 0, true
						}
					})
				}
			}
		}
	}
}

// P14.1: a reset of a section that isn't Cold any more is forgotten, whatever is seen, and it isn't Dirty for that; a section whose reset wasn't asked for stays Cold.
func TestResetsOfOthers(t *testing.T) {
	c := station(t, double)
	for owner := api.Inbound; owner <= len(c.Routes); owner++ {
		for _, asked := range []int{0, 1, 300, api.MaxTime + 1} {
			if owner == api.Cold && asked > 0 {
				continue
			}
			k := empty(c)
			k.Own[4], k.Resets[4] = owner, asked
			for _, v := range []api.View{worst(c), calm(c, k, 200), calm(c, k, math.MaxInt)} {
				steps(t, fmt.Sprintf("Resets %d of %d", asked, owner), c, k, v, 200, make([]int, 5), func(k *api.Core) { k.Resets[4] = 0 })
			}
		}
	}
}

// P14.1: several resets in one cycle, each by its own look: due, too early, occupied, of sections that a route owns still or gives back just now.
func TestSeveralResets(t *testing.T) {
	c := station(t, double)
	k := empty(c)
	k.Own = []int{-1, 1, -1, -1, -1, -1, 3, -2}
	k.Resets = []int{200, 190, 201, 1, 0, 150, 160, 170}
	k.Routes[0] = api.RouteState{State: api.Ending, Since: 100, Next: 2}
	gates(c, &k, 5)
	v := seen(calm(c, k, 200), func(v *api.View) { v.Occ[5].Value = 1 })
	steps(t, "several", c, k, v, 210, make([]int, 5), func(k *api.Core) {
		k.Own = []int{0, 0, -1, 0, -1, -1, 3, -2}
		k.Resets = []int{0, 0, 201, 0, 0, 150, 0, 0}
		k.Routes[0], k.Dirty = api.RouteState{}, true
	})
}

// P14.1: what each signal shows for each pair of states of the routes from signal 0: the Main routes 0 and 1, and the Shunt route 4.
func TestAspects(t *testing.T) {
	c := station(t, double)
	k := empty(c)
	for _, r := range []int{0, 1, 4} {
		shown := make([]int, 5)
		shown[0] = api.Main
		if r == 4 {
			shown[0] = api.Shunt
		}
		k := locked(t, c, 5, r)
		steps(t, fmt.Sprint("alone ", r), c, k, calm(c, k, 9), 9, shown, func(k *api.Core) { k.Routes[r].State = api.Open })
	}
	// The routes 0 and 4 have the same path: a state in which both are Set fits, whoever owns it.
	for _, m := range []int{1, 5} {
		k.Points[m] = api.Mover{Cmd: 1, Other: 5}
	}
	k.Own[2], k.Crossings[1] = 1, api.Mover{Cmd: 1, Other: 5}
	for first := api.Idle; first <= api.Held; first++ {
		for second := api.Idle; second <= api.Held; second++ {
			k.Routes[0], k.Routes[4] = api.RouteState{State: first, Since: 30}, api.RouteState{State: second, Since: 30}
			shown, does := make([]int, 5), func(k *api.Core) {
				for _, r := range []int{0, 4} {
					if k.Routes[r].State == api.Set {
						k.Routes[r].State = api.Open
					}
				}
			}
			switch {
			case first == api.Set || first == api.Open:
				shown[0] = api.Main
			case second == api.Set || second == api.Open:
				shown[0] = api.Shunt
			}
			steps(t, fmt.Sprintf("routes 0 and 4 as %d and %d", first, second), c, k, calm(c, k, 9), 9, shown, does)
		}
	}
}

// P14.1: all signals of a ring at once, each by its own route's State; the last one has no route.
func TestAllAspects(t *testing.T) {
	c := station(t, ring())
	k := empty(c)
	shown := make([]int, len(c.Signals))
	for r := range c.Routes {
		// None of those that end does so yet.
		k.Routes[r] = api.RouteState{State: r % 6, Since: 99}
		if r%6 == api.Open || r%6 == api.Set {
			shown[r] = api.Main
		}
		k.Own[r+1] = r + 1
	}
	for n := range k.Crossings {
		k.Crossings[n] = api.Mover{Cmd: 1, Other: 2}
	}
	steps(t, "a ring", c, k, calm(c, k, 99), 99, shown, func(k *api.Core) {
		for r := range k.Routes {
			if k.Routes[r].State == api.Set {
				k.Routes[r].State = api.Open
			}
		}
	})
}

// P14.1: a now that isn't 0 to MaxTime is ErrField; a state or a view that doesn't fit, or a configuration that isn't right, ErrState, also with such a now.
func TestErrors(t *testing.T) {
	c := station(t, double)
	k := locked(t, c, 5, 0)
	k.Routes[0].State = api.Open
	v := calm(c, k, 9)
	for _, now := range rightTimes {
		steps(t, fmt.Sprint("at ", now), c, k, v, now, []int{api.Main, 0, 0, 0, 0}, stays)
	}
	for _, now := range wrongTimes {
		refused(t, fmt.Sprint("at ", now), c, k, v, now, api.ErrField)
	}
	for _, now := range []int{9, 0, api.MaxTime, -1, api.MaxTime + 1} {
		for name, k := range misfits(k) {
			refused(t, "state: "+name, c, k, v, now, api.ErrState)
		}
		for name, v := range wrongViews(v) {
			refused(t, "view: "+name, c, k, v, now, api.ErrState)
		}
		for name, c := range wrongConfigs(t) {
			refused(t, "configuration: "+name, c, k, v, now, api.ErrState)
		}
	}
}

// R3: lists that are nil are as those without elements.
func TestNoElements(t *testing.T) {
	c := station(t, single)
	k := empty(c)
	for _, v := range []api.View{calm(c, k, 3), {Occ: make([]api.Look, 1), Pos: make([]api.Look, 1), Shut: []api.Look{}, Lamp: []api.Look{}}} {
		steps(t, "nothing to do", c, k, v, 3, nil, stays)
		steps(t, "with nil", c, changed(k, func(k *api.Core) { k.Routes, k.Crossings = nil, nil }), v, 3, nil, stays)
	}
	if kernel.Ready(c, k, calm(c, k, 3), 0) {
		t.Error("a route that there isn't is ready")
	}
}

// P14.4: with all looks at their worst no signal shows anything but Stop, no route is Open, nothing goes Free: from states in which each route is in each State, owning all that it locks; Open and Fallen ones end.
func TestWorst(t *testing.T) {
	for _, text := range stations() {
		c := station(t, text)
		for r := range c.Routes {
			for state := api.Set; state <= api.Held; state++ {
				k := locked(t, c, 5, r)
				k.Own[0], k.Resets[0] = api.Cold, 1
				gates(c, &k, 5)
				k.Routes[r] = api.RouteState{State: state, Since: 10}
				steps(t, fmt.Sprintf("route %d in state %d", r, state), c, k, worst(c), 500, make([]int, len(c.Signals)), func(k *api.Core) {
					if state == api.Open || state == api.Fallen {
						k.Routes[r] = api.RouteState{State: api.Ending, Since: 500}
					}
				})
			}
		}
	}
}

// spare is the list with memory behind it, which is filled.
func spare[T any](list []T, fill T) []T {
	return append(slices.Clone(list), fill, fill, fill)[:len(list)]
}

// whole is the list with the memory behind it.
func whole[T any](list []T) []T { return list[:cap(list)] }

// memory tells all that stands in the lists of what is handed in, and behind them.
func memory(c api.Config, k api.Core, v api.View) string {
	text := fmt.Sprint(whole(k.Own), whole(k.Routes), whole(k.Points), whole(k.Crossings), whole(k.Lines), whole(k.Resets), k.Dirty,
		whole(v.Occ), whole(v.Pos), whole(v.Shut), whole(v.Lamp), whole(c.Sections), whole(c.Joints), whole(c.Signals), whole(c.Crossings), whole(c.Routes), c.Timing)
	for _, r := range c.Routes {
		text += fmt.Sprint(whole(r.Path), whole(r.Flank), whole(r.Overlap))
	}
	return text
}

// scrawl writes over a list, and the memory behind it.
func scrawl[T any](list []T, with T) {
	for i := range whole(list) {
		whole(list)[i] = with
	}
}

// R5: what is handed in stays, its spare memory too, also when all that was answered is written over; and no two lists of an answer share memory.
func TestMemory(t *testing.T) {
	c := station(t, double)
	k := locked(t, c, 5, 0)
	k.Own[4], k.Resets[4], k.Resets[7], k.Crossings[0] = api.Cold, 5, 6, api.Mover{Cmd: 1, Other: 4}
	k.Routes[2], k.Own[6] = api.RouteState{State: api.Ending, Since: 20, Next: 1}, 3
	k.Routes[3], k.Lines[1].Ask, k.Lines[1].Peer.Grant = api.RouteState{State: api.Open}, 7, 8
	far := api.Look{Value: 61, Stamp: 62, Valid: true}
	c.Sections, c.Joints, c.Signals = spare(c.Sections, api.Section{Kind: 81}), spare(c.Joints, api.Joint{A: 82}), spare(c.Signals, api.Signal{Section: 83})
	c.Crossings, c.Routes = spare(c.Crossings, 84), spare(c.Routes, api.Route{Entry: 85})
	for i, r := range c.Routes {
		c.Routes[i].Path, c.Routes[i].Flank, c.Routes[i].Overlap = spare(r.Path, api.Step{Section: 86}), spare(r.Flank, api.Need{Section: 87}), spare(r.Overlap, 88)
	}
	right := k
	short := changed(k, func(k *api.Core) { k.Own = k.Own[:5] })
	for _, from := range []api.Core{right, short} {
		for _, now := range []int{200, -1} {
			k := api.Core{Own: spare(from.Own, 71), Routes: spare(from.Routes, api.RouteState{State: 72}), Points: spare(from.Points, api.Mover{Cmd: 73}),
				Crossings: spare(from.Crossings, api.Mover{Cmd: 74}), Lines: spare(from.Lines, api.LineState{Ask: 75}), Resets: spare(from.Resets, 76)}
			v := calm(c, right, 200)
			v = api.View{Occ: spare(v.Occ, far), Pos: spare(v.Pos, far), Shut: spare(v.Shut, far), Lamp: spare(v.Lamp, far)}
			was := memory(c, k, v)
			got, shown, e := kernel.Step(c, k, v, now)
			want := copied(got)
			for r := range c.Routes {
				kernel.Ready(c, k, v, r)
			}
			// List by list: what is written over changes no other list.
			scrawl(shown, -93)
			same(t, "aspects written over", got, want)
			scrawl(got.Own, -99)
			scrawl(want.Own, -99)
			scrawl(got.Resets, -98)
			scrawl(want.Resets, -98)
			scrawl(got.Points, api.Mover{Cmd: -97})
			scrawl(want.Points, api.Mover{Cmd: -97})
			same(t, "lists written over", got, want)
			scrawl(got.Crossings, api.Mover{Cmd: -96})
			scrawl(got.Routes, api.RouteState{State: -95})
			scrawl(got.Lines, api.LineState{Ask: -94})
			if memory(c, k, v) != was {
				t.Errorf("error %d: what was handed in was changed:\n%s; was\n%s", e, memory(c, k, v), was)
			}
			again, _, e2 := kernel.Step(c, k, v, now)
			if e2 != e || e == api.OK && again.Routes[2].State != api.Idle {
				t.Error("another answer: ", e2, again)
			}
		}
	}
}

// R1: configurations, states and views from anywhere: no call panics.
func TestNothingPanics(t *testing.T) {
	right := station(t, chapter)
	numbers := []int{0, 1, 4, 99, -1, math.MinInt, math.MaxInt}
	configs := []api.Config{{}, right, {Routes: make([]api.Route, 2)}, {Sections: make([]api.Section, 2), Crossings: []int{9}}}
	states := []api.Core{{}, locks.New(right, 5), {Own: numbers, Lines: make([]api.LineState, 9)}}
	views := []api.View{{}, worst(right), {Occ: make([]api.Look, 2), Lamp: make([]api.Look, 9)}}
	for _, c := range configs {
		for _, k := range states {
			for _, v := range views {
				for _, n := range numbers {
					kernel.Ready(c, k, v, n)
					kernel.Step(c, k, v, n)
				}
			}
		}
	}
}

// R1: looks with numbers from anywhere, on states of all sorts: no call panics, and none leaves the states that fit.
func TestOddLooks(t *testing.T) {
	throws := dice(5)
	for _, text := range stations() {
		c := station(t, text)
		for range 300 {
			k, now := thrown(&throws, c)
			v := calm(c, k, now)
			for _, looks := range [][]api.Look{v.Occ, v.Pos, v.Shut, v.Lamp} {
				for i := range looks {
					looks[i] = api.Look{Value: throws.some(append(odd, 0, 1, 2)...), Stamp: throws.some(odd...), Valid: throws.once(2)}
				}
			}
			got, _, e := kernel.Step(c, k, v, now)
			if e != api.OK || !locks.Fits(c, got) {
				t.Fatalf("error %d, %+v", e, got)
			}
			for r := range c.Routes {
				kernel.Ready(c, k, v, r)
			}
		}
	}
}
