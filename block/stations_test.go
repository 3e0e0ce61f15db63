package block_test

import (
	"math"
	"slices"
	"testing"

	"ballast/api"
	"ballast/block"
	"ballast/conf"
	"ballast/locks"
)

// chapter is the station of chapter 6, with its routes 0 and 1.
const chapter = "section 0 0 0\nsection 1 0 0\nsection 0 0 0\nsection 0 0 0\nsection 0 0 1\n" +
	"joint 0 1 1 0\njoint 1 1 2 0\njoint 1 2 3 0\njoint 2 1 4 0\n" +
	"signal 0 1\nsignal 2 1\n" +
	"route 0 1 0 path 1 0 1 2 0 1 flank overlap\n" +
	"route 1 -1 0 path 4 0 1 flank overlap\n" +
	"timing 2 1 4 1000\n"

// delta is a Point (1) with a line at each of its ends: line 3 (section 0), line 1 (section 2), line 2 (section 3). Each line's section is the approach of routes out on other lines.
const delta = "section 0 0 3\nsection 1 1 0\nsection 0 2 1\nsection 0 0 2\n" +
	"joint 0 0 1 0\njoint 1 1 2 0\njoint 1 2 3 0\n" +
	"signal 0 0\nsignal 2 0\nsignal 3 0\n" +
	"crossing 1\n" +
	"route 0 -1 0 path 1 0 1 2 0 1 flank overlap\n" +
	"route 0 -1 0 path 1 0 2 3 0 1 flank overlap\n" +
	"route 1 -1 0 path 1 1 0 0 0 1 flank overlap\n" +
	"route 2 -1 0 path 1 2 0 0 0 1 flank overlap\n" +
	"timing 2 1 4 700\n"

// fork is line 3 (section 0), a Point 5 with the tracks 1 and 2 behind it, which meet again in the Point 3, and line 2 (section 4) behind 6. The section 3 is the overlap of the routes 0 and 1.
const fork = "section 0 0 3\nsection 0 1 0\nsection 0 2 0\nsection 1 3 0\nsection 0 0 2\nsection 1 1 0\nsection 0 2 0\n" +
	"joint 0 0 5 0\njoint 5 1 1 0\njoint 5 2 2 0\njoint 1 1 3 1\njoint 2 1 3 2\njoint 3 0 6 0\njoint 6 1 4 0\n" +
	"signal 0 0\nsignal 1 1\nsignal 2 1\nsignal 6 1\nsignal 4 0\nsignal 1 0\nsignal 2 0\n" +
	"crossing 3\ncrossing 1\n" +
	"route 0 1 0 path 5 0 1 1 0 1 flank overlap 3\n" +
	"route 0 2 0 path 5 0 2 2 0 1 flank overlap 3\n" +
	"route 1 3 0 path 3 1 0 6 0 1 flank overlap\n" +
	"route 2 3 0 path 3 2 0 6 0 1 flank overlap\n" +
	"route 3 -1 0 path 4 0 1 flank overlap\n" +
	"route 5 -1 0 path 5 1 0 0 0 1 flank overlap\n" +
	"route 6 -1 0 path 5 2 0 0 0 1 flank overlap\n" +
	"route 4 5 0 path 6 1 0 3 0 1 1 1 0 flank overlap 5\n" +
	"timing 2 1 5 900\n"

// single is a station of one section: no route, no signal, no crossing.
const single = "section 0 0 2\ntiming 1 0 2 1\n"

// inner is a station without a line.
const inner = "section 0 0 0\nsection 0 1 0\njoint 0 1 1 0\nsignal 0 1\nroute 0 -1 0 path 1 0 1 flank overlap\ntiming 2 1 4 9\n"

// stations are right ones of all sorts, by their texts.
func stations() []string { return []string{chapter, delta, fork, single, inner} }

// station reads a right station.
func station(t *testing.T, text string) api.Config {
	t.Helper()
	c, e := conf.Read(text)
	if e == api.OK {
		e = conf.Check(c)
	}
	if e != api.OK {
		t.Fatal("no right station: ", e, "\n", text)
	}
	return c
}

// empty is a recorded state that fits: all sections are Free, all routes Idle, no point has a command; crossings are open.
func empty(c api.Config) api.Core {
	k := api.Core{
		Own:       make([]int, len(c.Sections)),
		Routes:    make([]api.RouteState, len(c.Routes)),
		Points:    make([]api.Mover, len(c.Sections)),
		Crossings: make([]api.Mover, len(c.Crossings)),
		Lines:     make([]api.LineState, 4),
		Resets:    make([]int, len(c.Sections)),
	}
	for i := range k.Crossings {
		k.Crossings[i] = api.Mover{Cmd: 2, Other: -1}
	}
	return k
}

// calm is what is seen where all is as it should be, at this stamp: all clear, points and crossings as they are commanded, lamps well.
func calm(c api.Config, k api.Core, stamp int) api.View {
	var v api.View
	for i := range c.Sections {
		v.Occ = append(v.Occ, api.Look{Stamp: stamp, Valid: true})
		v.Pos = append(v.Pos, api.Look{Value: k.Points[i].Cmd, Stamp: stamp, Valid: true})
	}
	for i := range c.Crossings {
		v.Shut = append(v.Shut, api.Look{Value: k.Crossings[i].Cmd % 2, Stamp: stamp, Valid: true})
	}
	for range c.Signals {
		v.Lamp = append(v.Lamp, api.Look{Value: 1, Stamp: stamp, Valid: true})
	}
	return v
}

// worst is what is seen of controllers that are silent.
func worst(c api.Config) api.View {
	looks := func(n, value int) []api.Look { return slices.Repeat([]api.Look{{Value: value, Stamp: -1}}, n) }
	return api.View{Occ: looks(len(c.Sections), 1), Pos: looks(len(c.Sections), 0), Shut: looks(len(c.Crossings), 0), Lamp: looks(len(c.Signals), 0)}
}

// copied shares no memory with the state.
func copied(k api.Core) api.Core {
	k.Own, k.Routes, k.Points = slices.Clone(k.Own), slices.Clone(k.Routes), slices.Clone(k.Points)
	k.Crossings, k.Lines, k.Resets = slices.Clone(k.Crossings), slices.Clone(k.Lines), slices.Clone(k.Resets)
	return k
}

// changed is a copy of the state in which something is otherwise.
func changed(k api.Core, do func(k *api.Core)) api.Core {
	k = copied(k)
	do(&k)
	return k
}

// seen is a copy of the view in which something is otherwise.
func seen(v api.View, do func(v *api.View)) api.View {
	v = api.View{Occ: slices.Clone(v.Occ), Pos: slices.Clone(v.Pos), Shut: slices.Clone(v.Shut), Lamp: slices.Clone(v.Lamp)}
	do(&v)
	return v
}

// same holds that the state is as it should be, list by list; a list that is nil is as one without elements.
func same(t *testing.T, name string, got, want api.Core) {
	t.Helper()
	list(t, name, "Own", got.Own, want.Own)
	list(t, name, "Routes", got.Routes, want.Routes)
	list(t, name, "Points", got.Points, want.Points)
	list(t, name, "Crossings", got.Crossings, want.Crossings)
	list(t, name, "Lines", got.Lines, want.Lines)
	list(t, name, "Resets", got.Resets, want.Resets)
	if got.Dirty != want.Dirty {
		t.Errorf("%s: Dirty %v", name, got.Dirty)
	}
}

func list[T comparable](t *testing.T, name, what string, got, want []T) {
	t.Helper()
	if !slices.Equal(got, want) {
		t.Errorf("%s: %s %v; want %v", name, what, got, want)
	}
}

// answers holds what a call answers.
func answers(t *testing.T, name string, got api.Core, e api.Errno, want api.Core, wantE api.Errno) {
	t.Helper()
	if e != wantE {
		t.Errorf("%s: error %d; want %d", name, e, wantE)
	}
	same(t, name, got, want)
}

// hears holds that the line's Peer is what was told, and that nothing else changed; it answers the state behind it.
func hears(t *testing.T, name string, c api.Config, k api.Core, line int, b api.Block) api.Core {
	t.Helper()
	got, e := block.Hear(c, k, line, b)
	answers(t, name, got, e, changed(k, func(k *api.Core) { k.Lines[line].Peer = b }), api.OK)
	return got
}

// steps holds what a cycle does to a copy of the state; it answers the state behind it, which fits.
func steps(t *testing.T, name string, c api.Config, k api.Core, v api.View, now int, does func(k *api.Core)) api.Core {
	t.Helper()
	got, e := block.Step(c, k, v, now)
	answers(t, name, got, e, changed(k, does), api.OK)
	if !locks.Fits(c, got) {
		t.Errorf("%s: doesn't fit: %+v", name, got)
	}
	return got
}

// stays is a cycle in which nothing changes.
func stays(*api.Core) {}

// sectionOf is the line's section, or -1.
func sectionOf(c api.Config, line int) int {
	return slices.IndexFunc(c.Sections, func(s api.Section) bool { return s.Line == line && line > 0 })
}

// odd are numbers that are mostly none of anything, some of them right ones but for their higher bytes.
var odd = []int{math.MinInt, math.MinInt + 1, -1 << 32, math.MinInt32, -65536, -256, -3, -2, -1, 12, 13, 255, 256, 65536, 1 << 32, 1<<32 + 1, 1 << 62, math.MaxInt - 1, math.MaxInt}

// wrongTimes are nows that aren't 0 to MaxTime.
var wrongTimes = []int{-1, -2, math.MinInt, api.MaxTime + 1, api.MaxTime + 2, 1 << 62, math.MaxInt}

// rightTimes are nows next to the bounds, and between.
var rightTimes = []int{0, 1, 50, 1 << 16, api.MaxTime - 1, api.MaxTime}

// dice throws the same row of numbers each time.
type dice uint64

func (d *dice) throw(sides int) int {
	*d = *d*6364136223846793005 + 1442695040888963407
	return int(uint64(*d) >> 33 % uint64(sides))
}

// some gives one of the numbers.
func (d *dice) some(list ...int) int { return list[d.throw(len(list))] }

// once in so many throws.
func (d *dice) once(in int) bool { return d.throw(in) == 0 }
