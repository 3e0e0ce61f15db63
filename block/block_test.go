package block_test

import (
	"fmt"
	"math"
	"slices"
	"testing"

	"ballast/api"
	"ballast/block"
	"ballast/locks"
)

// The chapter's first example.
func TestFirstExample(t *testing.T) {
	c := station(t, chapter)
	k := hears(t, "asked", c, empty(c), 1, api.Block{Ask: 1})
	k = steps(t, "granted", c, k, calm(c, k, 10), 10, func(k *api.Core) {
		k.Own[4], k.Lines[1].Grant, k.Dirty = api.Inbound, 1, true
	})
	if got := block.Tell(k, 1); got != (api.Block{}) {
		t.Error("told ahead of the record: ", got)
	}
	k.Dirty = false
	k = steps(t, "recorded", c, k, calm(c, k, 11), 11, func(k *api.Core) { k.Lines[1].Told = 1 })
	if got := block.Tell(k, 1); got != (api.Block{Grant: 1}) {
		t.Error("told: ", got)
	}
	k = hears(t, "done", c, k, 1, api.Block{Ask: 1, Done: 1})
	k = steps(t, "at 20", c, k, calm(c, k, 20), 20, func(k *api.Core) { k.Lines[1].Since = 21 })
	steps(t, "at 21", c, k, calm(c, k, 21), 21, func(k *api.Core) {
		k.Own[4], k.Lines[1].Since, k.Dirty = api.Free, 0, true
	})
}

// The chapter's second example.
func TestSecondExample(t *testing.T) {
	c := station(t, chapter)
	k, e := locks.Request(c, empty(c), 5, 1)
	if e != api.OK || k.Lines[1].Ask != 1 {
		t.Fatal("Request: error ", e, k.Lines)
	}
	k.Dirty = false
	k = hears(t, "asked", c, k, 1, api.Block{Ask: 1})
	steps(t, "nothing", c, k, calm(c, k, 10), 10, stays)
}

// numbered is a state with lines 0 to count-1, in which every number has a value of its own.
func numbered(k api.Core, count int) api.Core {
	k.Lines = make([]api.LineState, count)
	for i := range k.Lines {
		k.Lines[i] = api.LineState{Ask: 10 + i, Done: 20 + i, Grant: 30 + i, Told: 40 + i, Peer: api.Block{Ask: 50 + i, Done: 60 + i, Grant: 70 + i}, Since: 80 + i}
	}
	return k
}

// P15.1: each line that the state has is told, whether it is Dirty or not; none else, the number 0 neither. Whatever else the state has plays no part.
func TestTell(t *testing.T) {
	c := station(t, fork)
	for _, k := range []api.Core{numbered(empty(c), 4), numbered(locks.New(c, 5), 4), numbered(api.Core{}, 4), numbered(api.Core{}, 7), numbered(api.Core{}, 2), numbered(api.Core{}, 1), {}} {
		for _, line := range append([]int{0, 1, 2, 3, 4, 5, 6, 7, 8}, odd...) {
			want := api.Block{}
			if line >= 1 && line < len(k.Lines) {
				want = api.Block{Ask: 10 + line, Done: 20 + line, Grant: 40 + line}
			}
			if got := block.Tell(k, line); got != want {
				t.Errorf("line %d of %d: %v; want %v", line, len(k.Lines), got, want)
			}
		}
	}
	k := empty(c)
	for _, n := range append([]int{0, 1, api.MaxTime}, odd...) {
		k.Lines[2] = api.LineState{Ask: n, Done: n - 1, Told: n + 1}
		if got := block.Tell(k, 2); got != (api.Block{Ask: n, Done: n - 1, Grant: n + 1}) {
			t.Errorf("about %d: %v", n, got)
		}
	}
}

// P15.1: of each station, each line that a section has hears, whatever owns the section, and nothing else changes; any other line is ErrIndex.
func TestHear(t *testing.T) {
	b := api.Block{Ask: 91, Done: 92, Grant: 93}
	for _, text := range stations() {
		c := station(t, text)
		for _, dirty := range []bool{false, true} {
			for owner := api.Inbound; owner <= len(c.Routes); owner++ {
				k := numbered(empty(c), 4)
				k.Dirty = dirty
				for i := range k.Own {
					k.Own[i], k.Resets[i] = owner, 60+i
				}
				for line := range 4 {
					if sectionOf(c, line) >= 0 {
						hears(t, fmt.Sprintf("line %d, owner %d", line, owner), c, k, line, b)
						continue
					}
					got, e := block.Hear(c, k, line, b)
					answers(t, fmt.Sprint("no line ", line), got, e, k, api.ErrIndex)
				}
				for _, line := range append([]int{4, 5, 10, 11}, odd...) {
					got, e := block.Hear(c, k, line, b)
					answers(t, fmt.Sprint("no line ", line), got, e, k, api.ErrIndex)
				}
			}
		}
	}
}

// P15.1: each of the three numbers alone at 0 and at MaxTime is heard; below and beyond them it is ErrField, but ErrIndex goes ahead of that, and ErrState ahead of both.
func TestHearNumbers(t *testing.T) {
	c := station(t, delta)
	k := numbered(empty(c), 4)
	blocks := func(n int) []api.Block {
		return []api.Block{{Ask: n}, {Done: n}, {Grant: n}, {Ask: n, Done: n, Grant: n}}
	}
	for _, n := range rightTimes {
		for _, b := range blocks(n) {
			hears(t, fmt.Sprint(b), c, k, 2, b)
		}
	}
	short := changed(k, func(k *api.Core) { k.Own = k.Own[1:] })
	for _, n := range wrongTimes {
		for _, b := range blocks(n) {
			got, e := block.Hear(c, k, 2, b)
			answers(t, fmt.Sprint(b), got, e, k, api.ErrField)
			for _, line := range []int{0, -1, 4} {
				got, e = block.Hear(c, k, line, b)
				answers(t, fmt.Sprint(b, " on line ", line), got, e, k, api.ErrIndex)
				got, e = block.Hear(c, short, line, b)
				answers(t, fmt.Sprint(b, " on line ", line, ", doesn't fit"), got, e, short, api.ErrState)
			}
			got, e = block.Hear(c, short, 2, b)
			answers(t, fmt.Sprint(b, ", doesn't fit"), got, e, short, api.ErrState)
		}
	}
}

// misfits are states that don't fit the station delta, each for one reason.
func misfits(k api.Core) map[string]api.Core {
	wrong := map[string]api.Core{}
	for name, do := range map[string]func(k *api.Core){
		"Own":        func(k *api.Core) { k.Own[2] = 5 },
		"State":      func(k *api.Core) { k.Routes[1].State = 6 },
		"Next":       func(k *api.Core) { k.Routes[3].Next = 3 },
		"point":      func(k *api.Core) { k.Points[1].Cmd = -1 },
		"crossing":   func(k *api.Core) { k.Crossings[0].Cmd = 3 },
		"Ask":        func(k *api.Core) { k.Lines[1].Ask = -1 },
		"Since":      func(k *api.Core) { k.Lines[2].Since = api.MaxTime + 2 },
		"Peer":       func(k *api.Core) { k.Lines[3].Peer.Done = api.MaxTime + 1 },
		"Resets":     func(k *api.Core) { k.Resets[0] = -1 },
		"a section":  func(k *api.Core) { k.Own = append(k.Own, 0) },
		"a route":    func(k *api.Core) { k.Routes = k.Routes[:3] },
		"a line":     func(k *api.Core) { k.Lines = k.Lines[:3] },
		"many lines": func(k *api.Core) { k.Lines = append(k.Lines, api.LineState{}) },
		"no lines":   func(k *api.Core) { k.Lines = nil },
		"nothing":    func(k *api.Core) { *k = api.Core{} },
	} {
		wrong[name] = changed(k, do)
	}
	return wrong
}

// wrongConfigs are the station delta with one rule off, with the lengths of all lists as they are.
func wrongConfigs(t *testing.T) map[string]api.Config {
	wrong := map[string]api.Config{}
	for name, spoil := range map[string]func(c *api.Config){
		"kind":      func(c *api.Config) { c.Sections[1].Kind = 3 },
		"one line":  func(c *api.Config) { c.Sections[3].Line = 1 },
		"a line":    func(c *api.Config) { c.Sections[3].Line = 4 },
		"no line":   func(c *api.Config) { c.Sections[3].Line = -1 },
		"crossing":  func(c *api.Config) { c.Crossings[0] = 2 },
		"path":      func(c *api.Config) { c.Routes[2].Path = nil },
		"entry":     func(c *api.Config) { c.Routes[0].Entry = 3 },
		"no budget": func(c *api.Config) { c.Timing.Budget = 0 },
	} {
		c := station(t, delta)
		spoil(&c)
		wrong[name] = c
	}
	return wrong
}

// P15.1: Hear in a state that doesn't fit, and for a configuration that isn't right.
func TestHearMisfits(t *testing.T) {
	c := station(t, delta)
	k := numbered(empty(c), 4)
	for name, k := range misfits(k) {
		got, e := block.Hear(c, k, 1, api.Block{Ask: 1})
		answers(t, name, got, e, k, api.ErrState)
	}
	for name, c := range wrongConfigs(t) {
		for line := range 5 {
			got, e := block.Hear(c, k, line, api.Block{Ask: 1})
			answers(t, fmt.Sprint(name, ", line ", line), got, e, k, api.ErrState)
		}
	}
}

// wrongViews are views with one list too short, too long, or without elements.
func wrongViews(v api.View) map[string]api.View {
	wrong := map[string]api.View{"nothing": {}}
	for i, name := range []string{"Occ", "Pos", "Shut", "Lamp"} {
		at := func(v *api.View) *[]api.Look { return []*[]api.Look{&v.Occ, &v.Pos, &v.Shut, &v.Lamp}[i] }
		wrong[name+" too short"] = seen(v, func(v *api.View) { *at(v) = (*at(v))[1:] })
		wrong[name+" too long"] = seen(v, func(v *api.View) { *at(v) = append(*at(v), (*at(v))[0]) })
		wrong[name+" nil"] = seen(v, func(v *api.View) { *at(v) = nil })
	}
	return wrong
}

// P15.1: Step's errors, with the state as it was: a now that isn't 0 to MaxTime is ErrField; a state or a view that doesn't fit, or a configuration that isn't right, ErrState, also with such a now.
func TestStepErrors(t *testing.T) {
	c := station(t, delta)
	k := hears(t, "asked", c, empty(c), 1, api.Block{Ask: 3})
	v := calm(c, k, 9)
	for _, now := range rightTimes {
		steps(t, fmt.Sprint("at ", now), c, k, v, now, func(k *api.Core) {
			k.Own[2], k.Lines[1].Grant, k.Dirty = api.Inbound, 3, true
		})
	}
	refused := func(name string, c api.Config, k api.Core, v api.View, now int, want api.Errno) {
		t.Helper()
		got, e := block.Step(c, k, v, now)
		answers(t, fmt.Sprint(name, " at ", now), got, e, k, want)
	}
	for _, now := range wrongTimes {
		refused("right", c, k, v, now, api.ErrField)
	}
	for _, now := range []int{9, 0, api.MaxTime, -1, api.MaxTime + 1} {
		for name, k := range misfits(k) {
			refused("state: "+name, c, k, v, now, api.ErrState)
		}
		for name, v := range wrongViews(v) {
			refused("view: "+name, c, k, v, now, api.ErrState)
		}
		for name, c := range wrongConfigs(t) {
			refused("configuration: "+name, c, k, v, now, api.ErrState)
		}
	}
}

// R3: lists that are nil are as those without elements.
func TestNoElements(t *testing.T) {
	c := station(t, single)
	c.Joints, c.Signals, c.Crossings, c.Routes = nil, nil, nil, nil
	k := hears(t, "asked", c, empty(c), 2, api.Block{Ask: 1})
	for _, v := range []api.View{calm(c, k, 3), {Occ: make([]api.Look, 1), Pos: make([]api.Look, 1), Shut: []api.Look{}, Lamp: []api.Look{}}} {
		for _, none := range []api.Core{k, changed(k, func(k *api.Core) { k.Routes, k.Crossings = nil, nil }), changed(k, func(k *api.Core) { k.Routes, k.Crossings = []api.RouteState{}, []api.Mover{} })} {
			steps(t, "granted", c, none, v, 3, func(k *api.Core) { k.Own[0], k.Lines[2].Grant, k.Dirty = api.Inbound, 1, true })
		}
	}
}

// spare is the list with memory behind it, which is filled.
func spare[T any](list []T, fill T) []T {
	return append(slices.Clone(list), fill, fill, fill)[:len(list)]
}

// whole is the list with the memory behind it.
func whole[T any](list []T) []T { return list[:cap(list)] }

// scrawl writes over a list, and the memory behind it.
func scrawl[T any](list []T, with T) {
	for i := range whole(list) {
		whole(list)[i] = with
	}
}

// memory tells all that stands in the lists of what is handed in, and behind them.
func memory(c api.Config, k api.Core, v api.View) string {
	text := fmt.Sprint(whole(k.Own), whole(k.Routes), whole(k.Points), whole(k.Crossings), whole(k.Lines), whole(k.Resets), k.Dirty,
		whole(v.Occ), whole(v.Pos), whole(v.Shut), whole(v.Lamp), whole(c.Sections), whole(c.Joints), whole(c.Signals), whole(c.Crossings), whole(c.Routes), c.Timing)
	for _, r := range c.Routes {
		text += fmt.Sprint(whole(r.Path), whole(r.Flank), whole(r.Overlap))
	}
	return text
}

// P15.1, R5: what is handed in stays, its spare memory too, also when all that was answered is written over; and no two lists of an answer share memory.
func TestMemory(t *testing.T) {
	c := station(t, delta)
	c.Sections, c.Joints, c.Signals = spare(c.Sections, api.Section{Kind: 81}), spare(c.Joints, api.Joint{A: 82}), spare(c.Signals, api.Signal{Section: 83})
	c.Crossings, c.Routes = spare(c.Crossings, 84), spare(c.Routes, api.Route{Entry: 85})
	for i, r := range c.Routes {
		c.Routes[i].Path, c.Routes[i].Flank, c.Routes[i].Overlap = spare(r.Path, api.Step{Section: 86}), spare(r.Flank, api.Need{Section: 87}), spare(r.Overlap, 88)
	}
	right := empty(c)
	right.Own = []int{api.Inbound, api.Cold, api.Free, api.Inbound}
	right.Lines = []api.LineState{{}, {Grant: 2, Peer: api.Block{Ask: 3}}, {Grant: 5, Peer: api.Block{Done: 5}}, {Grant: 7, Peer: api.Block{Done: 7}, Since: 9}}
	right.Resets[1] = 30
	far := api.Look{Value: 61, Stamp: 62, Valid: true}
	for _, from := range []api.Core{right, changed(right, func(k *api.Core) { k.Own = k.Own[:2] })} {
		for _, call := range []func(k api.Core, v api.View) (api.Core, api.Errno){
			func(k api.Core, v api.View) (api.Core, api.Errno) { return block.Step(c, k, v, 40) },
			func(k api.Core, v api.View) (api.Core, api.Errno) { return block.Step(c, k, v, -1) },
			func(k api.Core, v api.View) (api.Core, api.Errno) { return block.Hear(c, k, 2, api.Block{Ask: 9}) },
			func(k api.Core, v api.View) (api.Core, api.Errno) { return block.Hear(c, k, 2, api.Block{Ask: -9}) },
			func(k api.Core, v api.View) (api.Core, api.Errno) { return block.Hear(c, k, 0, api.Block{}) },
		} {
			k := api.Core{Own: spare(from.Own, 71), Routes: spare(from.Routes, api.RouteState{State: 72}), Points: spare(from.Points, api.Mover{Cmd: 73}),
				Crossings: spare(from.Crossings, api.Mover{Cmd: 74}), Lines: spare(from.Lines, api.LineState{Ask: 75}), Resets: spare(from.Resets, 76)}
			v := calm(c, right, 39)
			v = api.View{Occ: spare(v.Occ, far), Pos: spare(v.Pos, far), Shut: spare(v.Shut, far), Lamp: spare(v.Lamp, far)}
			was := memory(c, k, v)
			got, e := call(k, v)
			want := copied(got)
			// List by list: what is written over changes no other list.
			scrawl(got.Own, -99)
			scrawl(want.Own, -99)
			scrawl(got.Points, api.Mover{Cmd: -97})
			scrawl(want.Points, api.Mover{Cmd: -97})
			same(t, "lists written over", got, want)
			scrawl(got.Resets, -98)
			scrawl(got.Crossings, api.Mover{Cmd: -96})
			scrawl(got.Routes, api.RouteState{State: -95})
			scrawl(got.Lines, api.LineState{Ask: -94})
			if memory(c, k, v) != was {
				t.Errorf("error %d: what was handed in was changed:\n%s; was\n%s", e, memory(c, k, v), was)
			}
			if again, e2 := call(k, v); e2 != e || len(again.Own) > 0 && again.Own[0] == -99 {
				t.Error("another answer: ", e2, again)
			}
		}
	}
}

// R1: configurations, states and views from anywhere: no call panics.
func TestNothingPanics(t *testing.T) {
	right := station(t, chapter)
	numbers := []int{0, 1, 2, 3, 4, 99, -1, math.MinInt, math.MaxInt}
	configs := []api.Config{{}, right, station(t, delta), {Routes: make([]api.Route, 2)}, {Sections: make([]api.Section, 2), Crossings: []int{9}}}
	states := []api.Core{{}, locks.New(right, 5), {Own: numbers, Lines: make([]api.LineState, 9)}, {Lines: make([]api.LineState, 1)}}
	views := []api.View{{}, worst(right), {Occ: make([]api.Look, 2), Lamp: make([]api.Look, 9)}}
	for _, k := range states {
		for _, n := range numbers {
			block.Tell(k, n)
			for _, c := range configs {
				for _, m := range numbers {
					block.Hear(c, k, n, api.Block{Ask: m, Done: m, Grant: m})
				}
				for _, v := range views {
					block.Step(c, k, v, n)
				}
			}
		}
	}
}
