package ars_test

import (
	"fmt"
	"math"
	"slices"
	"testing"

	"ballast/api"
	"ballast/ars"
)

// stand holds where the numbers stand behind a cycle, and that those handed in stay.
func stand(t *testing.T, name string, c api.Config, was, is api.Core, berths []int, want ...int) {
	t.Helper()
	handed := slices.Clone(berths)
	list(t, name, ars.Berths(c, was, is, berths...), want...)
	list(t, name+", handed in", berths, handed...)
}

// numbered are as many berths, each with a number of its own.
func numbered(n int) []int {
	var list []int
	for i := range n {
		list = append(list, 101+i)
	}
	return list
}

// moved is a copy of the berths in which the number at the one went to the other, if that is one.
func moved(berths []int, entry, exit int) []int {
	list := slices.Clone(berths)
	if exit >= 0 {
		list[exit] = list[entry]
	}
	list[entry] = 0
	return list
}

// P16.1: of each route each State ahead and behind: from Open and from Fallen to Ending the number moves, else nothing does.
func TestBerthsStates(t *testing.T) {
	for _, text := range stations() {
		c := station(t, text)
		berths := numbered(len(c.Signals))
		for r, route := range c.Routes {
			for ahead := api.Idle; ahead <= api.Held; ahead++ {
				for behind := api.Idle; behind <= api.Held; behind++ {
					want := berths
					if behind == api.Ending && (ahead == api.Open || ahead == api.Fallen) {
						want = moved(berths, route.Entry, route.Exit)
					}
					stand(t, fmt.Sprintf("route %d from %d to %d", r, ahead, behind), c, in(c, ahead, r), in(c, behind, r), berths, want...)
				}
			}
		}
		stand(t, "all Idle", c, empty(c), empty(c), berths, berths...)
	}
}

// P16.1: nothing of the states but the routes' States plays a part.
func TestBerthsOfOtherStates(t *testing.T) {
	c := station(t, double)
	other := func(k *api.Core) {
		for i := range k.Own {
			k.Own[i], k.Resets[i], k.Points[i] = i-2, 3, api.Mover{Cmd: 2, Other: 50}
		}
		for r := range k.Routes {
			k.Routes[r].Since, k.Routes[r].Next, k.Routes[r].Mark = 40+r, 1, 50
		}
		k.Lines[1], k.Dirty = api.LineState{Ask: 9, Grant: 8}, true
	}
	was, is := in(c, api.Open, 2), in(c, api.Ending, 2)
	for _, was := range []api.Core{was, changed(was, other)} {
		for _, is := range []api.Core{is, changed(is, other)} {
			stand(t, "the route 2", c, was, is, []int{1, 2, 3, 4, 5}, 1, 2, 0, 3, 5)
			stand(t, "back", c, is, was, []int{1, 2, 3, 4, 5}, 1, 2, 3, 4, 5)
		}
	}
}

// P16.1: the number of any train goes, whatever stood at the exit signal; an entry's berth that is 0 moves nothing, and what stands at the exit signal stays.
func TestBerthsNumbers(t *testing.T) {
	c := station(t, chapter)
	was, is := in(c, api.Open, 0), in(c, api.Ending, 0)
	for _, n := range append([]int{1, 7, 9999, 10000, -1}, odd...) {
		for _, m := range append([]int{0, 1, 7, -1, n}, odd...) {
			stand(t, fmt.Sprintf("%d to where %d is", n, m), c, was, is, []int{n, m}, 0, n)
			stand(t, fmt.Sprintf("none to where %d is", m), c, was, is, []int{0, m}, 0, m)
			stand(t, fmt.Sprintf("%d off", n), c, in(c, api.Fallen, 1), in(c, api.Ending, 1), []int{m, n}, m, 0)
			stand(t, "none off", c, in(c, api.Fallen, 1), in(c, api.Ending, 1), []int{m, 0}, m, 0)
		}
	}
	stand(t, "no train", c, was, is, []int{0, 0}, 0, 0)
}

// P16.1: several routes in one cycle, by their numbers.
func TestBerthsOfSeveralRoutes(t *testing.T) {
	for _, x := range []struct {
		name   string
		text   string
		routes []int
		want   []int
	}{
		// The second one's entry is the first one's exit: the first train's number goes all the way, and the other one's goes.
		{"one behind the other", chapter, []int{0, 1}, []int{0, 0}},
		{"one behind the other", fork, []int{0, 2}, []int{0, 0, 103, 101, 105, 106, 107}},
		{"three, one behind the other", fork, []int{1, 3, 4}, []int{0, 102, 0, 0, 105, 106, 107}},
		{"all of a ring", ring(), []int{0, 1, 2, 3, 4, 5, 6, 7, 8, 9, 10}, []int{0, 0, 0, 0, 0, 0, 0, 0, 0, 0, 0, 101}},
		{"some of a ring", ring(), []int{1, 2, 4, 8, 9, 10}, []int{101, 0, 0, 102, 0, 105, 107, 108, 0, 0, 0, 109}},
		// The first one's entry is the second one's exit: both numbers go on by one.
		{"the leader first", fork, []int{5, 7}, []int{101, 102, 103, 104, 0, 105, 107}},
		// Two lead to one signal: the second one's train is the one that stands there.
		{"to one signal", fork, []int{2, 3}, []int{101, 0, 0, 103, 105, 106, 107}},
		{"to one signal", double, []int{1, 2}, []int{0, 102, 0, 103, 105}},
		// Two lead from one signal: the first one takes the number.
		{"from one signal", fork, []int{0, 1}, []int{0, 101, 103, 104, 105, 106, 107}},
		{"from one signal", double, []int{0, 1}, []int{0, 101, 103, 104, 105}},
		{"from one signal, one of them Shunt", double, []int{1, 4}, []int{0, 102, 103, 101, 105}},
		{"beside one another", fork, []int{4, 6}, []int{101, 102, 103, 0, 105, 106, 0}},
	} {
		c := station(t, x.text)
		name := fmt.Sprint(x.name, " ", x.routes)
		berths := numbered(len(c.Signals))
		for _, ahead := range []int{api.Open, api.Fallen} {
			stand(t, name, c, in(c, ahead, x.routes...), in(c, api.Ending, x.routes...), berths, x.want...)
		}
		// The others are in all States, but stay in them.
		was, is := in(c, api.Fallen, x.routes...), in(c, api.Ending, x.routes...)
		for r := range c.Routes {
			if !slices.Contains(x.routes, r) {
				was.Routes[r].State, is.Routes[r].State = r%6, r%6
			}
		}
		stand(t, name+" among others", c, was, is, berths, x.want...)
	}
}

// P16.1: a chain in which the one in the middle has no train: the number from ahead of it goes on, as it would behind one.
func TestBerthsAcrossGaps(t *testing.T) {
	c := station(t, ring())
	was, is := in(c, api.Open, 0, 1, 2), in(c, api.Ending, 0, 1, 2)
	rest := make([]int, 8)
	stand(t, "the first one", c, was, is, append([]int{7, 0, 0, 0}, rest...), append([]int{0, 0, 0, 7}, rest...)...)
	stand(t, "the second one", c, was, is, append([]int{0, 7, 0, 9}, rest...), append([]int{0, 0, 0, 7}, rest...)...)
	stand(t, "none", c, was, is, append([]int{0, 0, 0, 9}, rest...), append([]int{0, 0, 0, 9}, rest...)...)
	middle := in(c, api.Ending, 1)
	stand(t, "the middle one", c, was, middle, append([]int{7, 8, 9, 6}, rest...), append([]int{7, 0, 8, 6}, rest...)...)
}

// P16.1: berths are as many as signals: those that aren't handed in are 0, those that are too many aren't there.
func TestBerthsLengths(t *testing.T) {
	for _, text := range stations() {
		c := station(t, text)
		for n := range 20 {
			berths := numbered(n)
			all := append(slices.Clone(berths), make([]int, 20)...)[:len(c.Signals)]
			stand(t, fmt.Sprint(n, " berths"), c, empty(c), empty(c), berths, all...)
			for r, route := range c.Routes {
				want := all
				if all[route.Entry] != 0 {
					want = moved(all, route.Entry, route.Exit)
				}
				stand(t, fmt.Sprint(n, " berths, route ", r), c, in(c, api.Open, r), in(c, api.Ending, r), berths, want...)
			}
		}
		stand(t, "no list", c, empty(c), empty(c), nil, make([]int, len(c.Signals))...)
	}
}

// P16.1: with a state that doesn't fit, ahead or behind, or a configuration that isn't right: the berths as they are, as many as were handed in.
func TestBerthsMisfits(t *testing.T) {
	c := station(t, double)
	was, is := in(c, api.Open, 0, 2), in(c, api.Ending, 0, 2)
	for n := range 8 {
		berths := numbered(n)
		for name, wrong := range misfits(was) {
			stand(t, "ahead: "+name, c, wrong, is, berths, berths...)
		}
		for name, wrong := range misfits(is) {
			stand(t, "behind: "+name, c, was, wrong, berths, berths...)
			stand(t, "both: "+name, c, wrong, wrong, berths, berths...)
		}
		for name, c := range wrongConfigs(t) {
			stand(t, "configuration: "+name, c, was, is, berths, berths...)
		}
		stand(t, "nothing fits", api.Config{}, api.Core{}, api.Core{}, berths, berths...)
	}
	stand(t, "no list", c, was, api.Core{}, nil)
	far := []int{math.MinInt, 0, math.MaxInt, -1, 7, 0, 7, 0}
	stand(t, "far numbers", c, api.Core{}, is, far, far...)
}
