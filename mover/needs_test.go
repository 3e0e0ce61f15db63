package mover_test

import (
	"fmt"
	"math"
	"reflect"
	"slices"
	"testing"

	"ballast/api"
	"ballast/conf"
	"ballast/mover"
	"ballast/topo"
)

// small is the station of chapter 6's examples: routes over the Point 1 in both positions, and one on a plain section alone; crossings on the paths and off them.
const small = "section 0 0 0\nsection 1 0 0\nsection 0 0 0\nsection 0 0 0\nsection 0 0 1\n" +
	"joint 0 1 1 0\njoint 1 1 2 0\njoint 1 2 3 0\njoint 2 1 4 0\n" +
	"signal 0 1\nsignal 2 1\n" +
	"crossing 3\ncrossing 2\ncrossing 0\ncrossing 1\n" +
	"route 0 1 0 path 1 0 1 2 0 1 flank overlap\n" +
	"route 1 -1 0 path 4 0 1 flank overlap\n" +
	"route 0 -1 0 path 1 0 2 3 0 1 flank overlap\n" +
	"timing 2 1 4 1000\n"

// double is a station of two tracks, 0 1 2 3 and 4 5 6 7, with a way from the one's Point 1 to the other's Point 5: routes with a Flank and without, and over both points.
const double = "section 0 0 0\nsection 1 0 0\nsection 0 1 0\nsection 0 2 0\nsection 0 0 0\nsection 1 3 0\nsection 0 1 0\nsection 0 2 1\n" +
	"joint 0 1 1 0\njoint 1 1 2 0\njoint 2 1 3 0\njoint 4 1 5 1\njoint 6 0 5 0\njoint 6 1 7 0\njoint 5 2 1 2\n" +
	"signal 0 1\nsignal 2 1\nsignal 4 1\nsignal 6 1\nsignal 7 0\n" +
	"crossing 6\ncrossing 2\n" +
	"route 0 1 0 path 1 0 1 2 0 1 flank 5 1 overlap 3\n" +
	"route 0 3 0 path 1 0 2 5 2 0 6 0 1 flank overlap\n" +
	"route 2 3 0 path 5 1 0 6 0 1 flank 1 1 overlap\n" +
	"route 4 -1 0 path 6 1 0 5 0 1 4 1 0 flank 1 1 overlap\n" +
	"timing 3 2 9 5000\n"

// star is a station about the Diamond 1, whose one way is a route's and whose other one leads to both legs of the Point 3.
const star = "section 0 0 0\nsection 2 0 0\nsection 0 0 0\nsection 1 0 0\nsection 0 0 0\nsection 1 0 0\nsection 2 0 0\nsection 0 0 0\n" +
	"joint 0 1 1 0\njoint 1 1 2 0\njoint 1 2 3 1\njoint 3 2 1 3\njoint 3 0 4 0\njoint 2 1 5 1\njoint 6 0 5 2\njoint 5 0 7 0\n" +
	"signal 0 1\nsignal 5 0\n" +
	"crossing 1\ncrossing 7\ncrossing 5\n" +
	"route 0 1 0 path 1 0 1 2 0 1 5 1 0 flank 3 2 overlap 7\n" +
	"route 1 -1 0 path 7 0 1 flank overlap\n" +
	"timing 2 1 4 1000\n"

// station reads a right station.
func station(t *testing.T, text string) api.Config {
	t.Helper()
	c, e := conf.Read(text)
	if e == api.OK {
		e = conf.Check(c)
	}
	if e != api.OK {
		t.Fatal("no right station: ", e)
	}
	return c
}

// needs holds what Needs answers; the needs are written as a section and a position each.
func needs(t *testing.T, name string, c api.Config, r int, want ...[2]int) {
	t.Helper()
	list := []api.Need{}
	for _, n := range want {
		list = append(list, api.Need{Section: n[0], Pos: n[1]})
	}
	if got := mover.Needs(c, r); !slices.Equal(got, list) {
		t.Errorf("%s: Needs of %d: %v; want %v", name, r, got, list)
	}
}

// crossings holds what Crossings answers.
func crossings(t *testing.T, name string, c api.Config, r int, want ...int) {
	t.Helper()
	if got := mover.Crossings(c, r); !slices.Equal(got, want) {
		t.Errorf("%s: Crossings of %d: %v; want %v", name, r, got, want)
	}
}

// P12.1: what the routes of right stations need: Points in either position, from either end, Diamonds and plain sections, with a Flank and without.
func TestNeeds(t *testing.T) {
	c := station(t, small)
	needs(t, "small", c, 0, [2]int{1, api.Normal})
	needs(t, "small", c, 1)
	needs(t, "small", c, 2, [2]int{1, api.Reverse})
	c = station(t, double)
	needs(t, "double", c, 0, [2]int{1, api.Normal}, [2]int{5, api.Normal})
	needs(t, "double", c, 1, [2]int{1, api.Reverse}, [2]int{5, api.Reverse})
	needs(t, "double", c, 2, [2]int{5, api.Normal}, [2]int{1, api.Normal})
	needs(t, "double", c, 3, [2]int{5, api.Normal}, [2]int{1, api.Normal})
	c = station(t, star)
	needs(t, "star", c, 0, [2]int{5, api.Normal}, [2]int{3, api.Reverse})
	needs(t, "star", c, 1)
}

// P12.1: the crossings of a route are told rising, whatever their order along the path; those off it aren't.
func TestCrossings(t *testing.T) {
	c := station(t, small)
	crossings(t, "small", c, 0, 1, 3)
	crossings(t, "small", c, 1)
	crossings(t, "small", c, 2, 0, 3)
	c = station(t, double)
	crossings(t, "double", c, 0, 1)
	crossings(t, "double", c, 1, 0)
	crossings(t, "double", c, 2, 0)
	crossings(t, "double", c, 3, 0)
	c = station(t, star)
	crossings(t, "star", c, 0, 0, 2)
	crossings(t, "star", c, 1, 1)
	c.Crossings = nil
	crossings(t, "no crossings", c, 0)
}

// P12.1: with its points as a right station's route needs them, a train's way is the path.
func TestNeedsLeadAlongThePath(t *testing.T) {
	for _, text := range []string{small, double, star} {
		c := station(t, text)
		for r, route := range c.Routes {
			pos := make([]int, len(c.Sections))
			for _, need := range mover.Needs(c, r) {
				pos[need.Section] = need.Pos
			}
			way := topo.Follow(c.Sections, c.Joints, route.Path[0].Section, route.Path[0].In, pos...)
			if len(way) < len(route.Path) || !slices.Equal(way[:len(route.Path)], route.Path) {
				t.Errorf("route %d: the way is %v; want %v", r, way, route.Path)
			}
		}
	}
}

// P12.1: a route of which there is none needs nothing and has no crossings.
func TestNoRoute(t *testing.T) {
	c := station(t, small)
	for _, r := range append([]int{len(c.Routes), len(c.Routes) + 1}, odd...) {
		needs(t, "small", c, r)
		crossings(t, "small", c, r)
		needs(t, "empty", api.Config{}, r)
		crossings(t, "empty", api.Config{}, r)
	}
	needs(t, "empty", api.Config{}, 0)
	crossings(t, "empty", api.Config{}, 0)
	needs(t, "an empty route", api.Config{Routes: make([]api.Route, 1), Crossings: []int{0, 1}}, 0)
	crossings(t, "an empty route", api.Config{Routes: make([]api.Route, 1), Crossings: []int{0, 1}}, 0)
}

// P12.1: each step of every kind of section, from end to end: only a way that goes, and goes in one position, needs it.
func TestNeedsOfEachWay(t *testing.T) {
	want := map[[3]int]int{
		{api.Point, 0, 1}: api.Normal, {api.Point, 1, 0}: api.Normal,
		{api.Point, 0, 2}: api.Reverse, {api.Point, 2, 0}: api.Reverse,
	}
	ends := append([]int{0, 1, 2, 3, 4}, odd...)
	for _, kind := range append([]int{api.Plain, api.Point, api.Diamond, 3, 4}, odd...) {
		for _, in := range ends {
			for _, out := range ends {
				c := api.Config{Sections: []api.Section{{}, {Kind: kind}}}
				c.Routes = []api.Route{{Path: []api.Step{{Section: 1, In: in, Out: out}}}}
				name := fmt.Sprint("kind ", kind, " from ", in, " to ", out)
				if pos, ok := want[[3]int{kind, in, out}]; ok {
					needs(t, name, c, 0, [2]int{1, pos})
				} else {
					needs(t, name, c, 0)
				}
			}
		}
	}
}

// P12.1: the Flank is told as it is configured, right or not, also twice, behind what the path needs; a step needs its position each time that it comes; the overlap and other routes play no part.
func TestFlankAsItIs(t *testing.T) {
	c := station(t, small)
	odds := []api.Need{{Section: 3, Pos: 9}, {Section: -1, Pos: math.MinInt}, {Section: 1, Pos: 2}, {Section: 1, Pos: 2}, {Section: 77}, {Section: math.MaxInt, Pos: -1}}
	c.Routes[0].Flank = odds
	c.Routes[0].Overlap = []int{1, 3}
	c.Routes[0].Path = append(c.Routes[0].Path, api.Step{Section: 1, In: 2, Out: 0}, api.Step{Section: 1, In: 0, Out: 1})
	path := [][2]int{{1, api.Normal}, {1, api.Reverse}, {1, api.Normal}}
	for _, n := range odds {
		path = append(path, [2]int{n.Section, n.Pos})
	}
	needs(t, "an odd flank", c, 0, path...)
	needs(t, "an odd flank", c, 1)
	needs(t, "an odd flank", c, 2, [2]int{1, api.Reverse})
	c.Routes[1].Flank = odds[:1]
	needs(t, "a flank of a plain path", c, 1, [2]int{3, 9})
}

// P12.1: steps whose section is none of the configuration's need nothing; the others' needs stand as ever.
func TestStepsOfNoSection(t *testing.T) {
	c := station(t, small)
	var path []api.Step
	for _, section := range append([]int{5, 6}, odd...) {
		if section < 0 || section >= len(c.Sections) {
			path = append(path, api.Step{Section: section, In: 0, Out: 1}, api.Step{Section: section, In: 2, Out: 0})
		}
	}
	c.Routes[0].Path = append(path, api.Step{Section: 1, In: 0, Out: 2})
	needs(t, "none and one", c, 0, [2]int{1, api.Reverse})
	c.Routes[0].Path = path
	c.Routes[0].Flank = []api.Need{{Section: 1, Pos: 1}}
	needs(t, "none and a flank", c, 0, [2]int{1, api.Normal})
	c.Sections = nil
	c.Routes[0].Path = []api.Step{{Section: 0, In: 0, Out: 1}}
	needs(t, "no sections", c, 0, [2]int{1, api.Normal})
}

// P12.1: a section that has two crossings, one that the path has twice, and crossings in no order: each crossing is told once.
func TestCrossingsOfOneSection(t *testing.T) {
	c := station(t, small)
	c.Crossings = []int{2, 4, 1, 2, 0, 2, 3, 1, -1, 5, math.MaxInt}
	crossings(t, "one section twice", c, 0, 0, 2, 3, 5, 7)
	crossings(t, "one section twice", c, 1, 1)
	c.Routes[0].Path = append(c.Routes[0].Path, c.Routes[0].Path...)
	c.Routes[0].Flank = []api.Need{{Section: 3, Pos: 1}}
	c.Routes[0].Overlap = []int{3, 0}
	crossings(t, "a path that comes twice", c, 0, 0, 2, 3, 5, 7)
}

// thrown is a configuration thrown together, right in nothing.
func thrown(seed int) api.Config {
	throws := dice(seed)
	d := &throws
	number := func(most int) int {
		return d.some(d.throw(most), d.throw(most), d.throw(most), d.throw(most), d.some(odd...))
	}
	var c api.Config
	for range d.throw(7) {
		c.Sections = append(c.Sections, api.Section{Kind: d.some(0, 1, 1, 1, 2, 3, -1)})
	}
	for range d.throw(9) {
		c.Crossings = append(c.Crossings, number(7))
	}
	for range d.throw(5) {
		var route api.Route
		for range d.throw(6) {
			route.Path = append(route.Path, api.Step{Section: number(6), In: number(4), Out: number(4)})
		}
		for range d.throw(3) {
			route.Flank = append(route.Flank, api.Need{Section: number(6), Pos: number(3)})
		}
		c.Routes = append(c.Routes, route)
	}
	return c
}

// goes: does a train that comes in by the one end go out by the other one, in this position?
func goes(kind int, step api.Step, pos int) bool {
	out, ok := topo.Way(kind, step.In, pos)
	return ok && out == step.Out
}

// needed says another way what a route needs: the position in which alone a train goes as the step says.
func needed(c api.Config, r int) [][2]int {
	var list [][2]int
	for _, step := range c.Routes[r].Path {
		for section, s := range c.Sections {
			normal, reverse := goes(s.Kind, step, api.Normal), goes(s.Kind, step, api.Reverse)
			switch {
			case section != step.Section || normal == reverse:
			case normal:
				list = append(list, [2]int{section, api.Normal})
			case reverse:
				list = append(list, [2]int{section, api.Reverse})
			}
		}
	}
	for _, n := range c.Routes[r].Flank {
		list = append(list, [2]int{n.Section, n.Pos})
	}
	return list
}

// crossed says another way which crossings a route has: step by step.
func crossed(c api.Config, r int) []int {
	var list []int
	for _, step := range c.Routes[r].Path {
		for n := range c.Crossings {
			if c.Crossings[n] == step.Section && !slices.Contains(list, n) {
				list = append(list, n)
			}
		}
	}
	slices.Sort(list)
	return list
}

// P12.1, R5: configurations thrown together, held against a second working-out; nothing of them is changed.
func TestThrown(t *testing.T) {
	points, found := 0, 0
	for seed := range 5000 {
		c, name := thrown(seed), fmt.Sprint("thrown ", seed)
		for r := range c.Routes {
			want, list := needed(c, r), crossed(c, r)
			points, found = points+len(want)-len(c.Routes[r].Flank), found+len(list)
			needs(t, name, c, r, want...)
			crossings(t, name, c, r, list...)
		}
		needs(t, name, c, len(c.Routes))
		crossings(t, name, c, -1)
		if !reflect.DeepEqual(c, thrown(seed)) {
			t.Fatal("changed: ", name)
		}
	}
	if points < 500 || found < 5000 {
		t.Error("too little was needed: ", points, found)
	}
}

// R4, R5: what is answered is new memory each time, and the configuration's spare memory stays as it was.
func TestMemory(t *testing.T) {
	c := station(t, double)
	spare := []api.Need{{Section: 5, Pos: 1}, {Section: 70, Pos: 70}, {Section: 71, Pos: 71}}
	c.Routes[0].Flank = spare[:1]
	c.Routes[1].Flank = spare[:1]
	c.Routes[1].Path = c.Routes[1].Path[2:]
	for r := range 2 {
		wanted, crossed := slices.Clone(mover.Needs(c, r)), slices.Clone(mover.Crossings(c, r))
		for range 2 {
			list, gates := mover.Needs(c, r), mover.Crossings(c, r)
			if !slices.Equal(list, wanted) || !slices.Equal(gates, crossed) {
				t.Fatalf("route %d: %v, %v; want %v, %v", r, list, gates, wanted, crossed)
			}
			for i := range list[:cap(list)] {
				list[:cap(list)][i] = api.Need{Section: 99, Pos: 99}
			}
			for i := range gates[:cap(gates)] {
				gates[:cap(gates)][i] = 99
			}
		}
	}
	if !slices.Equal(spare, []api.Need{{Section: 5, Pos: 1}, {Section: 70, Pos: 70}, {Section: 71, Pos: 71}}) {
		t.Error("the flank's memory was changed: ", spare)
	}
	if !slices.Equal(c.Crossings, []int{6, 2}) {
		t.Error("the crossings were changed: ", c.Crossings)
	}
}
