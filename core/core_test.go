package core_test

import (
	"fmt"
	"math"
	"slices"
	"testing"

	"ballast/api"
	"ballast/core"
)

// state has in each list something of its own.
func state() api.Core {
	return api.Core{
		Own:       []int{1, -1, -2},
		Routes:    []api.RouteState{{State: 4, Since: 5, Next: 6, Mark: 7}},
		Points:    []api.Mover{{Cmd: 1, Other: 8}, {}, {Cmd: 2, Other: -1}},
		Crossings: []api.Mover{{Cmd: 2, Other: 9}},
		Lines:     []api.LineState{{}, {Ask: 1, Done: 2, Grant: 3, Told: 4, Peer: api.Block{Ask: 5, Done: 6, Grant: 7}, Since: 8}},
		Resets:    []int{0, 10, 0},
		Dirty:     true,
	}
}

func TestCopy(t *testing.T) {
	k, want := state(), fmt.Sprintf("%+v", state())
	got := core.Copy(k)
	if text := fmt.Sprintf("%+v", got); text != want {
		t.Errorf("%s; want %s", text, want)
	}
	if core.Copy(api.Core{}).Dirty {
		t.Error("Dirty came from nowhere")
	}
	// What is written over in the one isn't in the other.
	got.Own[0], got.Routes[0].State, got.Points[0].Cmd, got.Crossings[0].Cmd, got.Lines[1].Peer.Ask, got.Resets[1] = 90, 91, 92, 93, 94, 95
	if text := fmt.Sprintf("%+v", k); text != want {
		t.Errorf("%s; was %s", text, want)
	}
}

// Each list alone may have no other length than the configuration's.
func TestSees(t *testing.T) {
	c := api.Config{Sections: make([]api.Section, 3), Crossings: []int{2, 0}, Signals: make([]api.Signal, 4)}
	for _, step := range []int{-3, -2, -1, 0, 1, 2} {
		for list := range 4 {
			sizes := []int{3, 3, 2, 4}
			sizes[list] = max(sizes[list]+step, 0)
			looks := func(n int) []api.Look { return make([]api.Look, sizes[n]) }
			v := api.View{Occ: looks(0), Pos: looks(1), Shut: looks(2), Lamp: looks(3)}
			if got := core.Sees(c, v); got != slices.Equal(sizes, []int{3, 3, 2, 4}) {
				t.Errorf("%v: %v", sizes, got)
			}
		}
	}
	if !core.Sees(api.Config{}, api.View{}) || core.Sees(c, api.View{}) {
		t.Error("nothing is seen")
	}
}

// A section is clear if its look counts, and tells 0; whatever its stamp.
func TestClear(t *testing.T) {
	for _, value := range []int{0, 1, 2, -1, 1 << 32, math.MinInt, math.MaxInt} {
		for _, stamp := range []int{0, 5, -1, math.MinInt, math.MaxInt} {
			for _, valid := range []bool{false, true} {
				look := api.Look{Value: value, Stamp: stamp, Valid: valid}
				if got := core.Clear(look); got != (valid && value == 0) {
					t.Errorf("%v: %v", look, got)
				}
			}
		}
	}
}

// Any one of the routes, in any State but Idle, makes its own approach one.
func TestApproached(t *testing.T) {
	c := api.Config{Sections: make([]api.Section, 4), Signals: []api.Signal{{Section: 3}, {Section: 1}}, Routes: []api.Route{{Entry: 1}, {Entry: 0}, {Entry: 1}, {Entry: 2}}}
	for r, approach := range []int{1, 3, 1, -1} {
		for state := api.Idle; state <= api.Held; state++ {
			k := api.Core{Routes: make([]api.RouteState, 4)}
			k.Routes[r].State = state
			for section := range c.Sections {
				if got := core.Approached(c, k, section); got != (state != api.Idle && section == approach) {
					t.Errorf("route %d in state %d, section %d: %v", r, state, section, got)
				}
			}
		}
	}
	if core.Approached(c, api.Core{}, 1) {
		t.Error("nothing is locked")
	}
}
