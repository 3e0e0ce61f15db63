package kernel_test

import (
	"fmt"
	"slices"
	"strings"
	"testing"

	"ballast/api"
	"ballast/locks"
)

// The chapter's first example.
func TestFirstExample(t *testing.T) {
	c := station(t, chapter)
	k := locked(t, c, 5, 0)
	steps(t, "looks at 8", c, k, calm(c, k, 8), 8, []int{api.Main, api.Stop}, func(k *api.Core) { k.Routes[0].State = api.Open })
	steps(t, "looks at 7", c, k, calm(c, k, 7), 8, []int{api.Stop, api.Stop}, stays)
}

// The chapter's second example.
func TestSecondExample(t *testing.T) {
	c := station(t, chapter)
	k := locked(t, c, 5, 0)
	k.Routes[0].State = api.Open
	stop := []int{api.Stop, api.Stop}
	occupied := seen(calm(c, k, 10), func(v *api.View) { v.Occ[1].Value = 1 })
	k = steps(t, "occupied at 10", c, k, occupied, 10, stop, func(k *api.Core) { k.Routes[0] = api.RouteState{State: api.Ending, Since: 10} })
	for now := 11; now <= 14; now++ {
		k = steps(t, fmt.Sprint("clear at ", now), c, k, calm(c, k, now), now, stop, stays)
	}
	k = steps(t, "clear at 15", c, k, calm(c, k, 15), 15, stop, func(k *api.Core) {
		k.Own[1], k.Dirty = api.Free, true
		k.Routes[0].Next, k.Routes[0].Mark = 1, 15
	})
	k = steps(t, "clear at 16", c, k, calm(c, k, 16), 16, stop, func(k *api.Core) { k.Own[2], k.Routes[0] = api.Free, api.RouteState{} })
	steps(t, "clear at 17", c, k, calm(c, k, 17), 17, stop, stays)
}

// spoiled are views of the station double in which one thing is not as it should be for the route 0.
var spoiled = map[string]func(v *api.View){
	"nothing":              func(v *api.View) {},
	"path occupied":        func(v *api.View) { v.Occ[1].Value = 1 },
	"path not seen":        func(v *api.View) { v.Occ[2].Valid = false },
	"path, point and lamp": func(v *api.View) { v.Occ[2].Value, v.Pos[5].Value, v.Lamp[0].Value = 7, 0, 0 },
	"overlap":              func(v *api.View) { v.Occ[3].Value = 1 },
	"point":                func(v *api.View) { v.Pos[1].Value = api.Nowhere },
	"flank's point":        func(v *api.View) { v.Pos[5].Stamp = 8 },
	"crossing":             func(v *api.View) { v.Shut[1].Valid = false },
	"lamp":                 func(v *api.View) { v.Lamp[0].Value = 0 },
	"another section":      func(v *api.View) { v.Occ[4].Value, v.Occ[6].Valid, v.Lamp[1].Value = 1, false, 0 },
}

// P14.1: the route 0 of the station double in each State, recorded or not, with each thing off: which State it has then, and what its signal shows; its other numbers stay unless it is Ending then, and Dirty stays.
func TestStates(t *testing.T) {
	c := station(t, double)
	was := locked(t, c, 5, 0)
	for name, spoil := range spoiled {
		path := strings.HasPrefix(name, "path")
		ready := name == "nothing" || name == "another section"
		for state := api.Idle; state <= api.Held; state++ {
			for _, dirty := range []bool{false, true} {
				k := changed(was, func(k *api.Core) {
					k.Routes[0], k.Dirty = api.RouteState{State: state, Since: 1000, Next: 1, Mark: 999}, dirty
				})
				then := state
				switch {
				case state == api.Set && ready && !dirty:
					then = api.Open
				case (state == api.Open || state == api.Fallen) && path:
					then = api.Ending
				case state == api.Open && !ready:
					then = api.Fallen
				}
				shown := make([]int, 5)
				if then == api.Open {
					shown[0] = api.Main
				}
				steps(t, fmt.Sprintf("state %d, dirty %v, off: %s", state, dirty, name), c, k, seen(calm(c, k, 9), spoil), 20, shown, func(k *api.Core) {
					k.Routes[0].State = then
					if then == api.Ending && state != api.Ending {
						k.Routes[0] = api.RouteState{State: api.Ending, Since: 20, Next: 1}
					}
				})
			}
		}
	}
}

// P14.1: a route that fell back stays so though it is ready, till it is restored; then it is cleared anew.
func TestFallenStays(t *testing.T) {
	c := station(t, double)
	k := locked(t, c, 5, 0)
	k.Routes[0].State = api.Fallen
	stop := make([]int, 5)
	steps(t, "ready", c, k, calm(c, k, 9), 9, stop, stays)
	k, e := locks.Restore(c, k, 0)
	if e != api.OK {
		t.Fatal(e)
	}
	steps(t, "restored", c, k, calm(c, k, 10), 10, []int{api.Main, 0, 0, 0, 0}, func(k *api.Core) { k.Routes[0].State = api.Open })
}

// P14.1: a route out on a line is cleared behind the neighbour's Grant, and falls back when that isn't what is asked for any more.
func TestLineGranted(t *testing.T) {
	c := station(t, chapter)
	k := locked(t, c, 5, 1)
	stop := []int{api.Stop, api.Stop}
	steps(t, "not granted", c, k, calm(c, k, 8), 8, stop, stays)
	k.Lines[1].Peer.Grant = 1
	k = steps(t, "granted", c, k, calm(c, k, 8), 8, []int{api.Stop, api.Main}, func(k *api.Core) { k.Routes[1].State = api.Open })
	k.Lines[1].Peer.Grant = 2
	steps(t, "granted another one", c, k, calm(c, k, 9), 9, stop, func(k *api.Core) { k.Routes[1].State = api.Fallen })
}

// ending is the station double with the route 0 Ending since 100 (Hold 9: till 109), all that it locks being its own.
func ending(t *testing.T, c api.Config, next, mark int) api.Core {
	t.Helper()
	k := locked(t, c, 5, 0)
	k.Routes[0] = api.RouteState{State: api.Ending, Since: 100, Next: next, Mark: mark}
	return k
}

// P14.1: a section of the path goes Free from Since + Hold on, behind a stamp above it, and above Mark; each at its bounds, and a section that isn't clear doesn't.
func TestEndingTimes(t *testing.T) {
	c := station(t, double)
	stop := make([]int, 5)
	for _, now := range []int{0, 1, 99, 100, 107, 108, 109, 110, 111, 300, api.MaxTime} {
		for _, stamp := range []int{-1, 0, 100, 108, 109, 110, 111, 112, 113, api.MaxTime, 1 << 62} {
			for _, mark := range []int{0, 109, 110, 111, 112, api.MaxTime} {
				for _, look := range []api.Look{{Value: 0, Stamp: stamp, Valid: true}, {Value: 1, Stamp: stamp, Valid: true}, {Value: -1, Stamp: stamp, Valid: true}, {Value: 0, Stamp: stamp}} {
					k := ending(t, c, 0, mark)
					v := seen(calm(c, k, 1<<61), func(v *api.View) { v.Occ[1] = look })
					does := stays
					if now >= 109 && stamp > 109 && stamp > mark && look.Valid && look.Value == 0 {
						does = func(k *api.Core) {
							k.Own[1], k.Dirty = api.Free, true
							k.Routes[0].Next, k.Routes[0].Mark = 1, now
						}
					}
					steps(t, fmt.Sprintf("at %d, Mark %d, look %v", now, mark, look), c, k, v, now, stop, does)
				}
			}
		}
	}
}

// P14.1: the same at the greatest Since, whose Since + Hold never comes, and at the greatest Hold.
func TestEndingAtTheEnd(t *testing.T) {
	c := station(t, double)
	k := ending(t, c, 0, 0)
	stop := make([]int, 5)
	for _, since := range []int{api.MaxTime, api.MaxTime - 8} {
		k.Routes[0].Since = since
		steps(t, "beyond MaxTime", c, k, calm(c, k, 1<<62), api.MaxTime, stop, stays)
	}
	k.Routes[0].Since = api.MaxTime - 9
	frees := func(k *api.Core) {
		k.Own[1], k.Dirty, k.Routes[0].Next, k.Routes[0].Mark = api.Free, true, 1, api.MaxTime
	}
	steps(t, "at MaxTime", c, k, calm(c, k, api.MaxTime+1), api.MaxTime, stop, frees)
	steps(t, "at MaxTime, seen then", c, k, calm(c, k, api.MaxTime), api.MaxTime, stop, stays)
	k.Routes[0].Since, c.Timing.Hold = 100, api.MaxHold
	steps(t, "a step ahead of a longer Hold", c, k, calm(c, k, 141), 139, stop, stays)
	steps(t, "not behind a longer Hold", c, k, calm(c, k, 140), 140, stop, stays)
	steps(t, "behind a longer Hold", c, k, calm(c, k, 141), 140, stop, func(k *api.Core) {
		k.Own[1], k.Dirty, k.Routes[0].Next, k.Routes[0].Mark = api.Free, true, 1, 140
	})
}

// P14.1, P14.3: sections go Free in the path's order alone, one a cycle: while the first one isn't clear none behind it goes.
func TestEndingInOrder(t *testing.T) {
	c := station(t, double)
	k := locked(t, c, 5, 1)
	k.Routes[1] = api.RouteState{State: api.Ending, Since: 20}
	stop := make([]int, 5)
	first := seen(calm(c, k, 40), func(v *api.View) { v.Occ[1].Value = 1 })
	steps(t, "the first one occupied", c, k, first, 40, stop, stays)
	for i, section := range []int{1, 5} {
		now := 41 + i
		// All sections were seen in this very cycle, so that only the order holds the later ones.
		k = steps(t, fmt.Sprint("section ", section), c, k, calm(c, k, now), now, stop, func(k *api.Core) {
			k.Own[section], k.Dirty = api.Free, true
			k.Routes[1].Next, k.Routes[1].Mark = i+1, now
			k.Crossings[2] = api.Mover{Cmd: []int{1, 2}[i], Other: []int{5, now}[i]}
		})
	}
	last := seen(calm(c, k, 50), func(v *api.View) { v.Occ[6].Valid = false })
	steps(t, "the last one not seen", c, k, last, 50, stop, stays)
	steps(t, "the last one seen too early", c, k, calm(c, k, 42), 50, stop, stays)
	steps(t, "the last one", c, k, calm(c, k, 43), 50, stop, func(k *api.Core) {
		k.Own[6], k.Routes[1] = api.Free, api.RouteState{}
		k.Crossings[0] = api.Mover{Cmd: 2, Other: 50}
	})
}

// P14.1: a section of the path that the route doesn't own, whoever does, is passed without a look at it: Next is one more, Mark and Dirty stay; but not ahead of Since + Hold.
func TestEndingPasses(t *testing.T) {
	c := station(t, double)
	stop := make([]int, 5)
	for owner := api.Inbound; owner <= len(c.Routes); owner++ {
		if owner == 1 {
			continue
		}
		k := ending(t, c, 0, 77)
		k.Own[1] = owner
		for _, v := range []api.View{calm(c, k, 300), calm(c, k, 0), worst(c)} {
			steps(t, fmt.Sprint("too early, of ", owner), c, k, v, 108, stop, stays)
			for _, now := range []int{109, 110, api.MaxTime} {
				steps(t, fmt.Sprint("of ", owner), c, k, v, now, stop, func(k *api.Core) { k.Routes[0].Next = 1 })
			}
		}
	}
}

// P14.1: where none of its path is the route's any more it is passed one a cycle, and behind the last one all goes: Idle, the rest Free, Dirty.
func TestEndingPassesAll(t *testing.T) {
	c := station(t, double)
	k := ending(t, c, 0, 3)
	k.Own[1], k.Own[2] = api.Free, 5
	stop := make([]int, 5)
	k = steps(t, "the first one", c, k, worst(c), 200, stop, func(k *api.Core) { k.Routes[0].Next = 1 })
	steps(t, "the last one", c, k, worst(c), 201, stop, func(k *api.Core) {
		k.Own[3], k.Own[5] = api.Free, api.Free
		k.Routes[0], k.Dirty = api.RouteState{}, true
		gates(c, k, 201)
	})
}

// P14.1: with Next at the path's length the route is Idle from Since + Hold on, and all that it still owns, whatever of it, is Free, whatever is seen of it; also where it owns nothing.
func TestEndingBehindThePath(t *testing.T) {
	c := station(t, double)
	stop := make([]int, 5)
	for _, own := range [][]int{{0, 0, 0, 1, 0, 1, 0, 0}, {0, 1, 1, 0, 0, 0, 0, 0}, {1, 1, 1, 1, 1, 1, 1, 1}, {-1, 2, -2, 3, 4, 5, 6, 7}, {-1, 1, 7, 1, -2, 2, 1, 3}} {
		k := ending(t, c, 2, 50)
		k.Own = own
		for _, v := range []api.View{calm(c, k, 300), worst(c)} {
			for _, now := range []int{109, 110, api.MaxTime} {
				steps(t, fmt.Sprint("owners ", own), c, k, v, now, stop, func(k *api.Core) {
					for section, owner := range own {
						if owner == 1 {
							k.Own[section] = api.Free
						}
					}
					k.Routes[0], k.Dirty = api.RouteState{}, true
					gates(c, k, now)
				})
			}
			steps(t, fmt.Sprint("too early, owners ", own), c, k, v, 108, stop, func(k *api.Core) { gates(c, k, 108) })
		}
	}
}

// P14.1: behind the path's last section flank and overlap go Free in the same cycle, not earlier; what another route inherited stays that one's.
func TestEndingLeavesFlankAndOverlap(t *testing.T) {
	c := station(t, double)
	stop := make([]int, 5)
	k := ending(t, c, 1, 110)
	k.Own[1] = api.Free
	steps(t, "the last section seen too early", c, k, calm(c, k, 110), 120, stop, stays)
	ends := func(k *api.Core) {
		k.Own, k.Routes[0], k.Dirty = make([]int, 8), api.RouteState{}, true
		gates(c, k, 120)
	}
	steps(t, "the last section", c, k, calm(c, k, 111), 120, stop, ends)
	left := seen(calm(c, k, 111), func(v *api.View) { v.Occ[3].Value, v.Occ[5].Valid = 1, false })
	steps(t, "the last section, the others not clear", c, k, left, 120, stop, ends)
	// The overlap is the route 6's by now.
	k.Own[3], k.Routes[6].State = 7, api.Held
	steps(t, "the overlap inherited", c, k, calm(c, k, 111), 120, stop, func(k *api.Core) {
		ends(k)
		k.Own[3] = 7
	})
}

// P14.1: a route out on a line is done with it when it is Idle, not earlier; no other line is touched, and no line by a route that isn't out on one.
func TestEndingOfLines(t *testing.T) {
	c := station(t, fork)
	for r, line := range []int{0, 0, 0, 0, 2, 3, 3, 0} {
		k := locked(t, c, 5, r)
		for i := range k.Lines {
			k.Lines[i] = api.LineState{Ask: 20 + i, Done: 10 + i, Grant: 30 + i, Told: 40 + i, Peer: api.Block{Ask: 50 + i, Done: 60 + i, Grant: 70 + i}, Since: 80 + i}
		}
		path := c.Routes[r].Path
		k.Routes[r] = api.RouteState{State: api.Ending, Since: 100}
		shown := make([]int, len(c.Signals))
		for i, step := range path {
			now := 200 + i
			k = steps(t, fmt.Sprint("route ", r), c, k, calm(c, k, now), now, shown, func(k *api.Core) {
				k.Own[step.Section], k.Dirty = api.Free, true
				k.Routes[r].Next, k.Routes[r].Mark = i+1, now
				if i == len(path)-1 {
					k.Own, k.Routes[r] = make([]int, len(k.Own)), api.RouteState{}
					if line > 0 {
						k.Lines[line].Done = 20 + line
					}
				}
				gates(c, k, now)
			})
		}
		if k.Routes[r].State != api.Idle {
			t.Error("not Idle: ", r)
		}
	}
	// Done is Ask, whichever is the greater.
	d := station(t, chapter)
	for _, line := range []api.LineState{{}, {Ask: 3, Done: 9}, {Ask: api.MaxTime}} {
		k := locked(t, d, 5, 1)
		k.Routes[1], k.Lines[1] = api.RouteState{State: api.Ending, Since: 100, Next: 1}, line
		steps(t, fmt.Sprint("line ", line), d, k, worst(d), 104, []int{0, 0}, func(k *api.Core) {
			k.Own[4], k.Routes[1], k.Dirty = api.Free, api.RouteState{}, true
			k.Lines[1].Done = line.Ask
		})
	}
}

// P14.1: several routes end in one cycle, each by its own numbers, beside one that may not yet, one that opens and one that falls back.
func TestSeveralRoutes(t *testing.T) {
	c := station(t, ring())
	k := locked(t, c, 5, 0, 2, 4, 6, 8, 10)
	shown := make([]int, len(c.Signals))
	shown[6] = api.Main
	k.Routes[0] = api.RouteState{State: api.Ending, Since: 100}
	k.Routes[2] = api.RouteState{State: api.Ending, Since: 101}
	k.Routes[4] = api.RouteState{State: api.Ending, Since: 110}
	k.Routes[8].State = api.Open
	k.Routes[10] = api.RouteState{State: api.Ending, Since: 90, Next: 1}
	v := seen(calm(c, k, 142), func(v *api.View) { v.Lamp[8].Value = 0 })
	k.Crossings = []api.Mover{{Cmd: 1, Other: 5}, {Cmd: 1, Other: 5}, {Cmd: 1, Other: 5}, {Cmd: 1, Other: 5}}
	steps(t, "several", c, k, v, 142, shown, func(k *api.Core) {
		for _, section := range []int{1, 2, 3, 4, 11, 12} {
			k.Own[section] = api.Free
		}
		k.Routes[0], k.Routes[2], k.Routes[10] = api.RouteState{}, api.RouteState{}, api.RouteState{}
		k.Routes[6].State, k.Routes[8].State = api.Open, api.Fallen
		k.Crossings[0], k.Crossings[1] = api.Mover{Cmd: 2, Other: 142}, api.Mover{Cmd: 2, Other: 142}
		k.Dirty = true
	})
}

// P14.2: the record counts that was there ahead of the cycle: what another route changes in this cycle doesn't hold a signal back, and a state that wasn't recorded holds all of them.
func TestRecordedAhead(t *testing.T) {
	c := station(t, ring())
	for _, dirty := range []bool{false, true} {
		// One that ends ahead of the route 4, and one behind it.
		k := locked(t, c, 5, 0, 4, 8)
		k.Routes[0] = api.RouteState{State: api.Ending, Since: 100}
		k.Routes[8] = api.RouteState{State: api.Ending, Since: 100}
		k.Dirty = dirty
		shown, state := make([]int, len(c.Signals)), api.Set
		if !dirty {
			shown[4], state = api.Main, api.Open
		}
		got := steps(t, fmt.Sprint("dirty ", dirty), c, k, calm(c, k, 200), 200, shown, func(k *api.Core) {
			k.Own = []int{0, 0, 0, 0, 0, 5, 5, 0, 0, 0, 0, 0, 0, 0, 0, 0}
			k.Routes[0], k.Routes[8], k.Routes[4].State = api.RouteState{}, api.RouteState{}, state
			k.Crossings[0] = api.Mover{Cmd: 2, Other: 200}
			k.Dirty = true
		})
		if slices.Contains(got.Own, 1) {
			t.Error("owned still: ", got.Own)
		}
	}
}
