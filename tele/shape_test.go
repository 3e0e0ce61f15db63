package tele_test

import (
	"math"
	"reflect"
	"slices"
	"testing"

	"ballast/api"
	"ballast/conf"
	"ballast/tele"
)

// example is a station with the chapter's controller, which is the number 2.
func example() api.Config {
	return api.Config{
		Sections:  []api.Section{{Kind: api.Plain, OC: 0}, {Kind: api.Point, OC: 2}, {Kind: api.Plain, OC: 2}},
		Joints:    []api.Joint{{A: 0, AEnd: 1, B: 1, BEnd: 0}, {A: 1, AEnd: 1, B: 2, BEnd: 0}},
		Signals:   []api.Signal{{Section: 0, End: 1}, {Section: 2, End: 0}},
		Crossings: []int{2},
		Timing:    api.Timing{Age: 2, Brake: 1, Hold: 4, Budget: 1000},
	}
}

// exampleShape is the shape above the chapter's examples.
var exampleShape = api.Shape{Sections: []int{1, 2}, Points: []int{1}, Crossings: []int{0}, Signals: []int{1}}

// wide is a station with sections of every kind and controller, and crossings and signals at each of them and at none, in no order.
func wide() api.Config {
	var c api.Config
	for i := range 16 {
		c.Sections = append(c.Sections, api.Section{Kind: i % 3, OC: i / 3 % 4, Line: i % 5})
	}
	places := []int{15, -1, 3, 0, 16, 7, 7, math.MinInt, 12, 1, math.MaxInt, 9, 4, 14, 2, 17, 11, 5, 13, 6, 8, 10, -16, 1 << 32}
	for _, section := range places {
		c.Crossings = append(c.Crossings, section)
		c.Signals = append(c.Signals, api.Signal{Section: section, End: section % 3})
	}
	slices.Reverse(c.Signals)
	return c
}

// sameShape tells whether two shapes are equal; a list that is nil is as one without elements.
func sameShape(a, b api.Shape) bool {
	return slices.Equal(a.Sections, b.Sections) && slices.Equal(a.Points, b.Points) && slices.Equal(a.Crossings, b.Crossings) && slices.Equal(a.Signals, b.Signals)
}

// shaped holds what Shape answers.
func shaped(t *testing.T, name string, c api.Config, oc int, want api.Shape) {
	t.Helper()
	if got := tele.Shape(c, oc); !sameShape(got, want) {
		t.Errorf("%s, controller %d: %v; want %v", name, oc, got, want)
	}
}

// P10.1, the shape above the chapter's examples, and those of the same station's other controllers.
func TestShapeExample(t *testing.T) {
	c := example()
	if e := conf.Check(c); e != api.OK {
		t.Fatal("no right station", e)
	}
	shaped(t, "example", c, 2, exampleShape)
	shaped(t, "example", c, 0, api.Shape{Sections: []int{0}, Signals: []int{0}})
	for _, oc := range append([]int{1, 3, 4}, odd...) {
		shaped(t, "example", c, oc, api.Shape{})
	}
}

// P10.1: the shapes of a station with everything, written by hand.
func TestShapeWide(t *testing.T) {
	c := wide()
	shaped(t, "wide", c, 0, api.Shape{Sections: []int{0, 1, 2, 12, 13, 14}, Points: []int{1, 13}, Crossings: []int{3, 8, 9, 13, 14, 18}, Signals: []int{5, 9, 10, 14, 15, 20}})
	shaped(t, "wide", c, 1, api.Shape{Sections: []int{3, 4, 5, 15}, Points: []int{4}, Crossings: []int{0, 2, 12, 17}, Signals: []int{6, 11, 21, 23}})
	shaped(t, "wide", c, 2, api.Shape{Sections: []int{6, 7, 8}, Points: []int{7}, Crossings: []int{5, 6, 19, 20}, Signals: []int{3, 4, 17, 18}})
	shaped(t, "wide", c, 3, api.Shape{Sections: []int{9, 10, 11}, Points: []int{10}, Crossings: []int{11, 16, 21}, Signals: []int{2, 7, 12}})
	for _, oc := range append([]int{4, 5, 16}, odd...) {
		shaped(t, "wide", c, oc, api.Shape{})
	}
}

// P10.1: configurations that lack things: no sections, but crossings and signals; sections, but neither of these; a controller with sections and nothing at them.
func TestShapeOfLittle(t *testing.T) {
	none := api.Config{Crossings: []int{0, -1, 1}, Signals: []api.Signal{{Section: 0}, {Section: -1}, {Section: 1}}}
	bare := api.Config{Sections: []api.Section{{OC: 3}, {OC: 3, Kind: api.Point}}}
	away := api.Config{Sections: []api.Section{{OC: 1, Kind: api.Diamond}, {OC: 0}}, Crossings: []int{1, 2, -1}, Signals: []api.Signal{{Section: 1}, {Section: 2}, {Section: -1}}}
	for oc := range 4 {
		shaped(t, "nothing", api.Config{}, oc, api.Shape{})
		shaped(t, "no sections", none, oc, api.Shape{})
	}
	shaped(t, "bare", bare, 0, api.Shape{})
	shaped(t, "bare", bare, 3, api.Shape{Sections: []int{0, 1}, Points: []int{1}})
	shaped(t, "away", away, 1, api.Shape{Sections: []int{0}})
	shaped(t, "away", away, 0, api.Shape{Sections: []int{1}, Crossings: []int{0}, Signals: []int{0}})
}

// P10.1: kinds and controllers that are none: a section is its controller's whatever both are, and a Point only by its kind.
func TestShapeOfOdd(t *testing.T) {
	var c api.Config
	for i, n := range odd {
		c.Sections = append(c.Sections, api.Section{Kind: n, OC: n}, api.Section{Kind: api.Point, OC: n})
		c.Crossings = append(c.Crossings, 2*i)
		c.Signals = append(c.Signals, api.Signal{Section: 2*i + 1, End: n})
	}
	for i, n := range odd {
		shaped(t, "odd", c, n, api.Shape{Sections: []int{2 * i, 2*i + 1}, Points: []int{2*i + 1}, Crossings: []int{i}, Signals: []int{i}})
	}
}

// thrown is any configuration with controllers 0 to 3; crossings and signals stand at sections and beside them.
func thrown(d *dice) api.Config {
	var c api.Config
	for range d.throw(24) {
		c.Sections = append(c.Sections, api.Section{Kind: d.throw(5) - 1, OC: d.throw(4), Line: d.throw(4)})
	}
	place := func() int {
		if d.throw(6) == 0 {
			return odd[d.throw(len(odd))]
		}
		return d.throw(len(c.Sections)+3) - 1
	}
	for range d.throw(12) {
		c.Crossings = append(c.Crossings, place())
	}
	for range d.throw(20) {
		c.Signals = append(c.Signals, api.Signal{Section: place(), End: d.throw(4)})
	}
	return c
}

// owners tells by the things' numbers whose each one is, out of the sections at which they stand; -1: nobody's.
func owners(c api.Config, places []int) []int {
	list := make([]int, len(places))
	for i, place := range places {
		list[i] = -1
		for section, s := range c.Sections {
			if section == place {
				list[i] = s.OC
			}
		}
	}
	return list
}

// places are where the sections, the Points, the crossings and the signals stand; what is no Point stands nowhere.
func places(c api.Config) [4][]int {
	var all [4][]int
	for i, s := range c.Sections {
		point := -1
		if s.Kind == api.Point {
			point = i
		}
		all[0], all[1] = append(all[0], i), append(all[1], point)
	}
	all[2] = c.Crossings
	for _, s := range c.Signals {
		all[3] = append(all[3], s.Section)
	}
	return all
}

// P10.1, P10.3: on any configuration with controllers 0 to 3, each thing stands in the shape of the controller whose it is and in no other one's; what is nobody's in none.
func TestShapesShare(t *testing.T) {
	throws, counts := dice(10), [4]int{}
	for round := range 4000 {
		c := thrown(&throws)
		if round == 0 {
			c = wide()
		}
		var lists [4][4][]int // by sort and controller
		for oc := range 4 {
			h := tele.Shape(c, oc)
			for sort, list := range [4][]int{h.Sections, h.Points, h.Crossings, h.Signals} {
				lists[sort][oc] = list
				if !slices.IsSorted(list) {
					t.Fatalf("%v: %v of %d doesn't rise", c, list, oc)
				}
			}
		}
		for sort, standing := range places(c) {
			all := 0
			for i, owner := range owners(c, standing) {
				for oc := range 4 {
					if slices.Contains(lists[sort][oc], i) != (owner == oc) {
						t.Fatalf("%v: the thing %d of the sort %d is of %d, but the lists are %v", c, i, sort, owner, lists[sort])
					}
				}
				if owner >= 0 {
					all++
				}
			}
			if sum := len(slices.Concat(lists[sort][:]...)); sum != all {
				t.Fatalf("%v: %d things of the sort %d stand in %v", c, all, sort, lists[sort])
			}
			counts[sort] += all
		}
	}
	if slices.Min(counts[:]) < 1000 {
		t.Error("too few things: ", counts)
	}
}

// apart holds that no two of the lists share memory, their spare one neither: each is filled with a number of its own.
func apart(t *testing.T, name string, lists ...[]int) {
	t.Helper()
	for i, list := range lists {
		for k := range list[:cap(list)] {
			list[:cap(list)][k] = 1000 + i
		}
	}
	for i, list := range lists {
		for _, n := range list[:cap(list)] {
			if n != 1000+i {
				t.Fatalf("%s: the lists %d and %d share memory", name, i, n-1000)
			}
		}
	}
}

// R4, R5: Shape changes nothing of the configuration, its spare memory neither, and answers new memory each time.
func TestShapeMemory(t *testing.T) {
	c, before := wide(), wide()
	c.Crossings = append(c.Crossings, 21, 22)
	spare := c.Crossings
	c.Crossings = c.Crossings[:len(before.Crossings)]
	a, b := tele.Shape(c, 0), tele.Shape(c, 0)
	if !sameShape(a, b) {
		t.Errorf("%v, then %v", a, b)
	}
	apart(t, "two shapes", a.Sections, a.Points, a.Crossings, a.Signals, b.Sections, b.Points, b.Crossings, b.Signals)
	if !reflect.DeepEqual(c, before) || spare[len(spare)-2] != 21 || spare[len(spare)-1] != 22 {
		t.Errorf("%v, %v; want %v", c, spare, before)
	}
}
