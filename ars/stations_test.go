package ars_test

import (
	"fmt"
	"math"
	"slices"
	"testing"

	"ballast/api"
	"ballast/ars"
	"ballast/conf"
)

// chapter is the station of chapter 6, with its routes 0 and 1: the one's exit signal is the other's entry signal.
const chapter = "section 0 0 0\nsection 1 0 0\nsection 0 0 0\nsection 0 0 0\nsection 0 0 1\n" +
	"joint 0 1 1 0\njoint 1 1 2 0\njoint 1 2 3 0\njoint 2 1 4 0\n" +
	"signal 0 1\nsignal 2 1\n" +
	"route 0 1 0 path 1 0 1 2 0 1 flank overlap\n" +
	"route 1 -1 0 path 4 0 1 flank overlap\n" +
	"timing 2 1 4 1000\n"

// double is two tracks, 0 1 2 3 and 4 5 6 7, with a way from the one's Point 1 to the other's Point 5. From the signal 0 there are two routes, and a Shunt one (4); to the signal 3 there are two; the routes 3, 5 and 6 lead to no signal.
const double = "section 0 0 0\nsection 1 0 0\nsection 0 1 0\nsection 0 2 0\nsection 0 0 0\nsection 1 3 0\nsection 0 1 0\nsection 0 2 1\n" +
	"joint 0 1 1 0\njoint 1 1 2 0\njoint 2 1 3 0\njoint 4 1 5 1\njoint 6 0 5 0\njoint 6 1 7 0\njoint 5 2 1 2\n" +
	"signal 0 1\nsignal 2 1\nsignal 4 1\nsignal 6 1\nsignal 7 0\n" +
	"crossing 6\ncrossing 2\ncrossing 5\n" +
	"route 0 1 0 path 1 0 1 2 0 1 flank 5 1 overlap 3\n" +
	"route 0 3 0 path 1 0 2 5 2 0 6 0 1 flank overlap\n" +
	"route 2 3 0 path 5 1 0 6 0 1 flank 1 1 overlap\n" +
	"route 3 -1 0 path 7 0 1 flank overlap\n" +
	"route 0 1 1 path 1 0 1 2 0 1 flank 5 1 overlap\n" +
	"route 4 -1 0 path 6 1 0 5 0 1 4 1 0 flank 1 1 overlap\n" +
	"route 1 -1 0 path 3 0 1 flank overlap\n" +
	"timing 3 2 9 5000\n"

// fork is line 3 (section 0), a Point 5 with the tracks 1 and 2 behind it, which meet again in the Point 3, and line 2 (section 4) behind 6. The route 7 leads to the signal from which the route 5 does.
const fork = "section 0 0 3\nsection 0 1 0\nsection 0 2 0\nsection 1 3 0\nsection 0 0 2\nsection 1 1 0\nsection 0 2 0\n" +
	"joint 0 0 5 0\njoint 5 1 1 0\njoint 5 2 2 0\njoint 1 1 3 1\njoint 2 1 3 2\njoint 3 0 6 0\njoint 6 1 4 0\n" +
	"signal 0 0\nsignal 1 1\nsignal 2 1\nsignal 6 1\nsignal 4 0\nsignal 1 0\nsignal 2 0\n" +
	"crossing 3\ncrossing 1\n" +
	"route 0 1 0 path 5 0 1 1 0 1 flank overlap 3\n" +
	"route 0 2 0 path 5 0 2 2 0 1 flank overlap 3\n" +
	"route 1 3 0 path 3 1 0 6 0 1 flank overlap\n" +
	"route 2 3 0 path 3 2 0 6 0 1 flank overlap\n" +
	"route 3 -1 0 path 4 0 1 flank overlap\n" +
	"route 5 -1 0 path 5 1 0 0 0 1 flank overlap\n" +
	"route 6 -1 0 path 5 2 0 0 0 1 flank overlap\n" +
	"route 4 5 0 path 6 1 0 3 0 1 1 1 0 flank overlap 5\n" +
	"timing 2 1 5 900\n"

// single is a station of one section: no route, no signal, no crossing.
const single = "section 0 0 2\ntiming 1 0 2 1\n"

// ring is sixteen sections in a ring with twelve signals, and from each of the first eleven a route to the next one.
func ring() string {
	text := ""
	for range api.MaxSections {
		text += "section 0 0 0\n"
	}
	for i := range api.MaxSections {
		text += fmt.Sprintf("joint %d 1 %d 0\n", i, (i+1)%api.MaxSections)
	}
	for i := range api.MaxSignals {
		text += fmt.Sprintf("signal %d 1\n", i)
	}
	for i := range api.MaxSignals - 1 {
		text += fmt.Sprintf("route %d %d 0 path %d 0 1 flank overlap %d\n", i, i+1, i+1, i+2)
	}
	return text + "timing 8 8 40 1000000\n"
}

// stations are right ones of all sorts, by their texts.
func stations() []string { return []string{chapter, double, fork, single, ring()} }

// station reads a right station.
func station(t *testing.T, text string) api.Config {
	t.Helper()
	c, e := conf.Read(text)
	if e == api.OK {
		e = conf.Check(c)
	}
	if e != api.OK {
		t.Fatal("no right station: ", e, "\n", text)
	}
	return c
}

// wrongConfigs are the station double with one rule off, with the lengths of all lists as they are.
func wrongConfigs(t *testing.T) map[string]api.Config {
	wrong := map[string]api.Config{}
	for name, spoil := range map[string]func(c *api.Config){
		"kind":       func(c *api.Config) { c.Sections[1].Kind = 3 },
		"joint":      func(c *api.Config) { c.Joints[0].B = 0 },
		"signal":     func(c *api.Config) { c.Signals[1] = c.Signals[0] },
		"crossing":   func(c *api.Config) { c.Crossings[0] = 2 },
		"path":       func(c *api.Config) { c.Routes[2].Path = nil },
		"entry":      func(c *api.Config) { c.Routes[0].Entry = 5 },
		"no entry":   func(c *api.Config) { c.Routes[6].Entry = -1 },
		"exit":       func(c *api.Config) { c.Routes[1].Exit = 5 },
		"exit below": func(c *api.Config) { c.Routes[3].Exit = -2 },
		"flank":      func(c *api.Config) { c.Routes[0].Flank = nil },
		"overlap":    func(c *api.Config) { c.Routes[0].Overlap = nil },
		"no budget":  func(c *api.Config) { c.Timing.Budget = 0 },
	} {
		c := station(t, double)
		spoil(&c)
		wrong[name] = c
	}
	return wrong
}

// empty is a recorded state that fits: all sections are Free, all routes Idle.
func empty(c api.Config) api.Core {
	return api.Core{
		Own:       make([]int, len(c.Sections)),
		Routes:    make([]api.RouteState, len(c.Routes)),
		Points:    make([]api.Mover, len(c.Sections)),
		Crossings: make([]api.Mover, len(c.Crossings)),
		Lines:     make([]api.LineState, 4),
		Resets:    make([]int, len(c.Sections)),
	}
}

// in is the empty state with these routes in a State.
func in(c api.Config, state int, routes ...int) api.Core {
	k := empty(c)
	for _, r := range routes {
		k.Routes[r].State = state
	}
	return k
}

// changed is a copy of the state in which something is otherwise.
func changed(k api.Core, do func(k *api.Core)) api.Core {
	k.Own, k.Routes, k.Points = slices.Clone(k.Own), slices.Clone(k.Routes), slices.Clone(k.Points)
	k.Crossings, k.Lines, k.Resets = slices.Clone(k.Crossings), slices.Clone(k.Lines), slices.Clone(k.Resets)
	do(&k)
	return k
}

// misfits are states that don't fit the station double, each for one reason.
func misfits(k api.Core) map[string]api.Core {
	wrong := map[string]api.Core{}
	for name, do := range map[string]func(k *api.Core){
		"Own":         func(k *api.Core) { k.Own[2] = 8 },
		"State":       func(k *api.Core) { k.Routes[5].State = 6 },
		"no State":    func(k *api.Core) { k.Routes[5].State = -1 },
		"Next":        func(k *api.Core) { k.Routes[3].Next = 2 },
		"Since":       func(k *api.Core) { k.Routes[6].Since = -1 },
		"Mark":        func(k *api.Core) { k.Routes[6].Mark = api.MaxTime + 1 },
		"point":       func(k *api.Core) { k.Points[1].Cmd = -1 },
		"crossing":    func(k *api.Core) { k.Crossings[0].Cmd = 3 },
		"line":        func(k *api.Core) { k.Lines[1].Ask = -1 },
		"Resets":      func(k *api.Core) { k.Resets[0] = -1 },
		"a section":   func(k *api.Core) { k.Own = append(k.Own, 0) },
		"a route":     func(k *api.Core) { k.Routes = k.Routes[:6] },
		"many routes": func(k *api.Core) { k.Routes = append(k.Routes, api.RouteState{}) },
		"no lines":    func(k *api.Core) { k.Lines = nil },
		"nothing":     func(k *api.Core) { *k = api.Core{} },
	} {
		wrong[name] = changed(k, do)
	}
	return wrong
}

// full is what is seen where each section is occupied, and nothing else well.
func full(c api.Config) api.View {
	looks := func(n, value int) []api.Look {
		return slices.Repeat([]api.Look{{Value: value, Stamp: 5, Valid: value == 1}}, n)
	}
	return api.View{Occ: looks(len(c.Sections), 1), Pos: looks(len(c.Sections), 0), Shut: looks(len(c.Crossings), 0), Lamp: looks(len(c.Signals), 0)}
}

// worst is what is seen of controllers that are silent: each section as if it were occupied.
func worst(c api.Config) api.View {
	looks := func(n, value int) []api.Look { return slices.Repeat([]api.Look{{Value: value, Stamp: -1}}, n) }
	return api.View{Occ: looks(len(c.Sections), 1), Pos: looks(len(c.Sections), 0), Shut: looks(len(c.Crossings), 0), Lamp: looks(len(c.Signals), 0)}
}

// seen is a copy of the view in which something is otherwise.
func seen(v api.View, do func(v *api.View)) api.View {
	v = api.View{Occ: slices.Clone(v.Occ), Pos: slices.Clone(v.Pos), Shut: slices.Clone(v.Shut), Lamp: slices.Clone(v.Lamp)}
	do(&v)
	return v
}

// wrongViews are views with one list too short, too long, or without elements.
func wrongViews(v api.View) map[string]api.View {
	wrong := map[string]api.View{"nothing": {}}
	for i, name := range []string{"Occ", "Pos", "Shut", "Lamp"} {
		at := func(v *api.View) *[]api.Look { return []*[]api.Look{&v.Occ, &v.Pos, &v.Shut, &v.Lamp}[i] }
		wrong[name+" too short"] = seen(v, func(v *api.View) { *at(v) = (*at(v))[1:] })
		wrong[name+" too long"] = seen(v, func(v *api.View) { *at(v) = append(*at(v), (*at(v))[0]) })
		wrong[name+" nil"] = seen(v, func(v *api.View) { *at(v) = nil })
	}
	return wrong
}

// list holds that the numbers are these; a list that is nil is as one without elements.
func list(t *testing.T, name string, got []int, want ...int) {
	t.Helper()
	if !slices.Equal(got, want) {
		t.Errorf("%s: %v; want %v", name, got, want)
	}
}

// dues holds which entries are due.
func dues(t *testing.T, name string, c api.Config, k api.Core, v api.View, now int, done []bool, table []api.Entry, want ...int) {
	t.Helper()
	list(t, name, ars.Due(c, k, v, now, done, table...), want...)
}

// odd are numbers that are mostly none of anything, some of them right ones but for their higher bytes.
var odd = []int{math.MinInt, math.MinInt + 1, -1 << 32, math.MinInt32, -65536, -256, -3, -2, 1 << 32, 1<<32 + 1, 1<<32 + 7, 1 << 62, math.MaxInt - 1, math.MaxInt}

// dice throws the same row of numbers each time.
type dice uint64

func (d *dice) throw(sides int) int {
	*d = *d*6364136223846793005 + 1442695040888963407
	return int(uint64(*d) >> 33 % uint64(sides))
}

// some gives one of the numbers.
func (d *dice) some(list ...int) int { return list[d.throw(len(list))] }

// once in so many throws.
func (d *dice) once(in int) bool { return d.throw(in) == 0 }
