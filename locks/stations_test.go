package locks_test

import (
	"fmt"
	"math"
	"slices"
	"testing"

	"ballast/api"
	"ballast/conf"
)

// chapter is the station of chapter 6, with its routes 0 and 1.
const chapter = "section 0 0 0\nsection 1 0 0\nsection 0 0 0\nsection 0 0 0\nsection 0 0 1\n" +
	"joint 0 1 1 0\njoint 1 1 2 0\njoint 1 2 3 0\njoint 2 1 4 0\n" +
	"signal 0 1\nsignal 2 1\n" +
	"route 0 1 0 path 1 0 1 2 0 1 flank overlap\n" +
	"route 1 -1 0 path 4 0 1 flank overlap\n" +
	"timing 2 1 4 1000\n"

// double is two tracks, 0 1 2 3 and 4 5 6 7, with a way from the one's Point 1 to the other's Point 5: routes with a flank, an overlap, a line, crossings, and shunt routes.
const double = "section 0 0 0\nsection 1 0 0\nsection 0 1 0\nsection 0 2 0\nsection 0 0 0\nsection 1 3 0\nsection 0 1 0\nsection 0 2 1\n" +
	"joint 0 1 1 0\njoint 1 1 2 0\njoint 2 1 3 0\njoint 4 1 5 1\njoint 6 0 5 0\njoint 6 1 7 0\njoint 5 2 1 2\n" +
	"signal 0 1\nsignal 2 1\nsignal 4 1\nsignal 6 1\nsignal 7 0\n" +
	"crossing 6\ncrossing 2\ncrossing 5\n" +
	"route 0 1 0 path 1 0 1 2 0 1 flank 5 1 overlap 3\n" +
	"route 0 3 0 path 1 0 2 5 2 0 6 0 1 flank overlap\n" +
	"route 2 3 0 path 5 1 0 6 0 1 flank 1 1 overlap\n" +
	"route 3 -1 0 path 7 0 1 flank overlap\n" +
	"route 0 1 1 path 1 0 1 2 0 1 flank 5 1 overlap\n" +
	"route 4 -1 0 path 6 1 0 5 0 1 4 1 0 flank 1 1 overlap\n" +
	"route 1 -1 0 path 3 0 1 flank overlap\n" +
	"timing 3 2 9 5000\n"

// fork is line 3 (section 0), a Point 5 with the tracks 1 and 2 behind it, which meet again in the Point 3, and line 2 (section 4) behind 6. The section 3 is the overlap of the routes 0 and 1, whose exits are unlike.
const fork = "section 0 0 3\nsection 0 1 0\nsection 0 2 0\nsection 1 3 0\nsection 0 0 2\nsection 1 1 0\nsection 0 2 0\n" +
	"joint 0 0 5 0\njoint 5 1 1 0\njoint 5 2 2 0\njoint 1 1 3 1\njoint 2 1 3 2\njoint 3 0 6 0\njoint 6 1 4 0\n" +
	"signal 0 0\nsignal 1 1\nsignal 2 1\nsignal 6 1\nsignal 4 0\nsignal 1 0\nsignal 2 0\n" +
	"crossing 3\ncrossing 1\n" +
	"route 0 1 0 path 5 0 1 1 0 1 flank overlap 3\n" +
	"route 0 2 0 path 5 0 2 2 0 1 flank overlap 3\n" +
	"route 1 3 0 path 3 1 0 6 0 1 flank overlap\n" +
	"route 2 3 0 path 3 2 0 6 0 1 flank overlap\n" +
	"route 3 -1 0 path 4 0 1 flank overlap\n" +
	"route 5 -1 0 path 5 1 0 0 0 1 flank overlap\n" +
	"route 6 -1 0 path 5 2 0 0 0 1 flank overlap\n" +
	"route 4 5 0 path 6 1 0 3 0 1 1 1 0 flank overlap 5\n" +
	"timing 2 1 5 900\n"

// star is a station about the Diamond 1, whose one way is a route's and whose other one leads to both legs of the Point 3.
const star = "section 0 0 0\nsection 2 0 0\nsection 0 0 0\nsection 1 0 0\nsection 0 0 0\nsection 1 0 0\nsection 2 0 0\nsection 0 0 0\n" +
	"joint 0 1 1 0\njoint 1 1 2 0\njoint 1 2 3 1\njoint 3 2 1 3\njoint 3 0 4 0\njoint 2 1 5 1\njoint 6 0 5 2\njoint 5 0 7 0\n" +
	"signal 0 1\nsignal 5 0\n" +
	"crossing 1\ncrossing 7\n" +
	"route 0 1 0 path 1 0 1 2 0 1 5 1 0 flank 3 2 overlap 7\n" +
	"route 1 -1 0 path 7 0 1 flank overlap\n" +
	"timing 2 1 4 1000\n"

// single is a station of one section: no route, no joint, no point.
const single = "section 0 0 2\ntiming 1 0 2 1\n"

// ring is sixteen sections in a ring, twelve signals, eleven routes each with the next one's first section for an overlap.
func ring() string {
	text := ""
	for range api.MaxSections {
		text += "section 0 0 0\n"
	}
	for i := range api.MaxSections {
		text += fmt.Sprintf("joint %d 1 %d 0\n", i, (i+1)%api.MaxSections)
	}
	for i := range api.MaxSignals {
		text += fmt.Sprintf("signal %d 1\n", i)
	}
	for i := range api.MaxSignals - 1 {
		text += fmt.Sprintf("route %d %d 0 path %d 0 1 flank overlap %d\n", i, i+1, i+1, i+2)
	}
	return text + "timing 8 8 40 1000000\n"
}

// stations are right ones of all sorts, by their texts.
func stations() []string { return []string{chapter, double, fork, star, single, ring()} }

// station reads a right station.
func station(t *testing.T, text string) api.Config {
	t.Helper()
	c, e := conf.Read(text)
	if e == api.OK {
		e = conf.Check(c)
	}
	if e != api.OK {
		t.Fatal("no right station: ", e, "\n", text)
	}
	return c
}

// empty is a state that fits: all sections are Free, all routes Idle, no mover has a command.
func empty(c api.Config) api.Core {
	return api.Core{
		Own:       make([]int, len(c.Sections)),
		Routes:    make([]api.RouteState, len(c.Routes)),
		Points:    make([]api.Mover, len(c.Sections)),
		Crossings: make([]api.Mover, len(c.Crossings)),
		Lines:     make([]api.LineState, 4),
		Resets:    make([]int, len(c.Sections)),
	}
}

// copied shares no memory with the state.
func copied(k api.Core) api.Core {
	k.Own, k.Routes, k.Points = slices.Clone(k.Own), slices.Clone(k.Routes), slices.Clone(k.Points)
	k.Crossings, k.Lines, k.Resets = slices.Clone(k.Crossings), slices.Clone(k.Lines), slices.Clone(k.Resets)
	return k
}

// changed is a copy of the state in which something is otherwise.
func changed(k api.Core, do func(k *api.Core)) api.Core {
	k = copied(k)
	do(&k)
	return k
}

// same tells whether two states are equal; a list that is nil is as one without elements.
func same(a, b api.Core) bool {
	return slices.Equal(a.Own, b.Own) && slices.Equal(a.Routes, b.Routes) && slices.Equal(a.Points, b.Points) &&
		slices.Equal(a.Crossings, b.Crossings) && slices.Equal(a.Lines, b.Lines) && slices.Equal(a.Resets, b.Resets) && a.Dirty == b.Dirty
}

// answers holds a call's answer: its error, and the state behind it.
func answers(t *testing.T, name string, got api.Core, e api.Errno, want api.Core, wantErr api.Errno) {
	t.Helper()
	if e != wantErr {
		t.Errorf("%s: error %d; want %d", name, e, wantErr)
	}
	if !same(got, want) {
		t.Errorf("%s:\n%+v; want\n%+v", name, got, want)
	}
}

// odd are numbers that are mostly none of anything, some of them right ones but for their higher bytes.
var odd = []int{math.MinInt, math.MinInt + 1, math.MinInt + 2, -1 << 32, math.MinInt32, -65536, -256, -4, -3, -2, -1, 17, 255, 256, 65536, 1 << 32, 1<<32 + 1, 1 << 62, math.MaxInt - 2, math.MaxInt - 1, math.MaxInt}

// wrongTimes are nows that aren't 0 to MaxTime.
var wrongTimes = []int{-1, -2, math.MinInt, api.MaxTime + 1, api.MaxTime + 2, 1 << 62, math.MaxInt}

// rightTimes are nows next to the bounds, and between.
var rightTimes = []int{0, 1, 5, 1 << 16, api.MaxTime - 1, api.MaxTime}

// dice throws the same row of numbers each time.
type dice uint64

func (d *dice) throw(sides int) int {
	*d = *d*6364136223846793005 + 1442695040888963407
	return int(uint64(*d) >> 33 % uint64(sides))
}

// some gives one of the numbers.
func (d *dice) some(list ...int) int { return list[d.throw(len(list))] }

// time is one from 0 to MaxTime, often a bound or a small one.
func (d *dice) time() int {
	return d.some(0, 1, d.throw(50), d.throw(1<<30)<<2, api.MaxTime-1, api.MaxTime)
}

// thrown is a state that fits, thrown together: nothing in it need go with anything else.
func thrown(d *dice, c api.Config) api.Core {
	k := empty(c)
	for i := range k.Own {
		k.Own[i] = d.some(0, 0, 0, d.throw(len(c.Routes)+3)-2)
		k.Points[i] = api.Mover{Cmd: d.throw(3), Other: d.time() - d.throw(2)}
		k.Resets[i] = d.some(0, 0, d.time()+d.throw(2))
		k.Points[i].Other = max(k.Points[i].Other, -1)
	}
	for i := range k.Routes {
		k.Routes[i] = api.RouteState{State: d.some(0, 0, 0, 0, 0, d.throw(6)), Since: d.time(), Next: d.throw(len(c.Routes[i].Path) + 1), Mark: d.time()}
	}
	for i := range k.Crossings {
		k.Crossings[i] = api.Mover{Cmd: d.throw(3), Other: max(d.time()-d.throw(2), -1)}
	}
	for i := range k.Lines {
		peer := api.Block{Ask: d.time(), Done: d.time(), Grant: d.time()}
		k.Lines[i] = api.LineState{Ask: d.time(), Done: d.time(), Grant: d.time(), Told: d.time(), Peer: peer, Since: d.time() + d.throw(2)}
	}
	k.Dirty = d.throw(2) == 0
	return k
}
