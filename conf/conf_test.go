package conf_test

import (
	"math"
	"slices"
	"testing"

	"ballast/api"
	"ballast/conf"
	"ballast/topo"
)

// The chapter's examples.
func TestExamples(t *testing.T) {
	c := small()
	c.Routes = c.Routes[:1]
	if e := conf.Check(c); e != api.OK {
		t.Errorf("1: Check %d", e)
	}
	if flank := conf.Flank(c, 0, c.Routes[0].Path...); len(flank) != 0 {
		t.Errorf("1: Flank %v", flank)
	}
	if overlap := conf.Overlap(c, c.Routes[0]); len(overlap) != 0 {
		t.Errorf("1: Overlap %v", overlap)
	}
	if list := conf.Locks(c, 0); !slices.Equal(list, []int{1, 2}) {
		t.Errorf("1: Locks %v", list)
	}
	if section := conf.Approach(c, 0); section != 0 {
		t.Errorf("1: Approach %d", section)
	}
	c = small()
	if e := conf.Check(c); e != api.OK {
		t.Errorf("2: Check %d", e)
	}
	if list := conf.Locks(c, 1); !slices.Equal(list, []int{4}) {
		t.Errorf("2: Locks %v", list)
	}
	c.Signals = c.Signals[:1]
	c.Routes = c.Routes[:1]
	c.Routes[0].Exit = -1
	if e := conf.Check(c); e != api.ErrRoute {
		t.Errorf("3: Check %d", e)
	}
}

// P6.1: the approach, -1 where there is no such route, or it has no such signal.
func TestApproach(t *testing.T) {
	c := double()
	for r, want := range []int{0, 0, 4, 6, 0, 7, 2} {
		if section := conf.Approach(c, r); section != want {
			t.Errorf("of %d: %d, want %d", r, section, want)
		}
	}
	for _, r := range []int{math.MinInt, -2, -1, 7, 8, math.MaxInt} {
		if section := conf.Approach(c, r); section != -1 {
			t.Errorf("of %d: %d", r, section)
		}
	}
	for _, entry := range []int{math.MinInt, -2, -1, 5, 6, math.MaxInt} {
		c.Routes[1].Entry = entry
		if section := conf.Approach(c, 1); section != -1 {
			t.Errorf("by the signal %d: %d", entry, section)
		}
	}
	// Of a configuration that isn't right, too, it is the signal's section, whatever that is.
	for _, section := range []int{math.MinInt, -7, 99, math.MaxInt} {
		c.Signals[4].Section = section
		if got := conf.Approach(c, 5); got != section {
			t.Errorf("%d, want %d", got, section)
		}
	}
	if section := conf.Approach(api.Config{}, 0); section != -1 {
		t.Errorf("of nothing: %d", section)
	}
}

// flanking is a path with its approach on a track, and its flank.
type flanking struct {
	name     string
	c        api.Config
	approach int
	path     []api.Step
	want     []api.Need
}

func flanks(t *testing.T, list ...flanking) {
	t.Helper()
	for _, f := range list {
		if got := conf.Flank(f.c, f.approach, f.path...); !slices.Equal(got, f.want) {
			t.Errorf("%s: %v, want %v", f.name, got, f.want)
		}
	}
}

// P6.1: an end by which the path doesn't go has a flank just if it meets a leg of a Point.
func TestFlank(t *testing.T) {
	P, T, D := api.Plain, api.Point, api.Diamond
	leg := func(kind, end int) api.Config { return track([]int{T, kind}, [4]int{0, 2, 1, end}) }
	straight := steps([3]int{0, 0, 1})
	flanks(t,
		flanking{"a leg 2", leg(T, 2), -1, straight, needs([2]int{1, 1})},
		flanking{"a leg 1", leg(T, 1), -1, straight, needs([2]int{1, 2})},
		flanking{"a toe", leg(T, 0), -1, straight, nil},
		flanking{"a Plain's end 0", leg(P, 0), -1, straight, nil},
		flanking{"a Plain's end 1", leg(P, 1), -1, straight, nil},
		flanking{"a Diamond's end 1", leg(D, 1), -1, straight, nil},
		flanking{"a Diamond's end 2", leg(D, 2), -1, straight, nil},
		flanking{"back over the Point", leg(T, 2), -1, steps([3]int{0, 1, 0}), needs([2]int{1, 1})},
		flanking{"out by the end", leg(T, 2), -1, steps([3]int{0, 0, 2}), nil},
		flanking{"in by the end", leg(T, 2), -1, steps([3]int{0, 2, 0}), nil},
		flanking{"an end that meets nothing", track([]int{T, T}), -1, straight, nil},
		flanking{"a joint the other way about", track([]int{T, T}, [4]int{1, 1, 0, 2}), -1, straight, needs([2]int{1, 2})},
		flanking{"the end 1", track([]int{T, T}, [4]int{0, 1, 1, 1}), -1, steps([3]int{0, 0, 2}), needs([2]int{1, 2})},
		flanking{"the toe", track([]int{T, T}, [4]int{0, 0, 1, 2}), -1, steps([3]int{0, 1, 2}), needs([2]int{1, 1})},
		flanking{"by both legs of the path's Point", track([]int{T, T, T}, [4]int{0, 1, 1, 1}, [4]int{0, 2, 2, 2}), -1, straight, needs([2]int{2, 1})},
		flanking{"the approach", leg(T, 2), 1, straight, nil},
		flanking{"another approach", leg(T, 2), 0, straight, needs([2]int{1, 1})},
		flanking{"an approach that is none", leg(T, 2), 7, straight, needs([2]int{1, 1})},
		flanking{"a Point of the path, later", leg(T, 2), -1, steps([3]int{0, 0, 1}, [3]int{1, 0, 1}), nil},
		flanking{"a Point of the path, ahead", leg(T, 2), -1, steps([3]int{1, 0, 2}, [3]int{0, 0, 1}), nil},
		flanking{"no path", leg(T, 2), -1, nil, nil},
	)
}

// P6.1: a Point that is met at both legs, or twice, is listed once, where it is met first.
func TestFlankTwice(t *testing.T) {
	P, T, D := api.Plain, api.Point, api.Diamond
	both := track([]int{D, T}, [4]int{0, 2, 1, 1}, [4]int{0, 3, 1, 2})
	crossed := track([]int{D, T}, [4]int{0, 3, 1, 1}, [4]int{0, 2, 1, 2})
	pair := track([]int{T, T, T}, [4]int{0, 2, 2, 2}, [4]int{1, 2, 2, 1})
	two := track([]int{D, T, T}, [4]int{0, 2, 2, 1}, [4]int{0, 3, 1, 2})
	flanks(t,
		flanking{"both legs", both, -1, steps([3]int{0, 0, 1}), needs([2]int{1, 2})},
		flanking{"both legs, crossed", crossed, -1, steps([3]int{0, 1, 0}), needs([2]int{1, 1})},
		flanking{"both legs, by their way", both, -1, steps([3]int{0, 2, 3}), nil},
		flanking{"both legs, one of them left", both, -1, steps([3]int{0, 2, 1}), needs([2]int{1, 1})},
		flanking{"two steps", pair, -1, steps([3]int{0, 0, 1}, [3]int{1, 0, 1}), needs([2]int{2, 1})},
		flanking{"two steps, the other way", pair, -1, steps([3]int{1, 0, 1}, [3]int{0, 0, 1}), needs([2]int{2, 2})},
		flanking{"one step twice", pair, -1, steps([3]int{0, 0, 1}, [3]int{0, 0, 1}), needs([2]int{2, 1})},
		flanking{"two Points", two, -1, steps([3]int{0, 0, 1}), needs([2]int{2, 2}, [2]int{1, 1})},
		flanking{"two Points, one the approach", two, 2, steps([3]int{0, 0, 1}), needs([2]int{1, 1})},
		flanking{"two Points, the other the approach", two, 1, steps([3]int{0, 1, 0}), needs([2]int{2, 2})},
		flanking{"through the star", star(), 0, star().Routes[0].Path, needs([2]int{3, 2})},
		flanking{"through the double station", double(), 0, double().Routes[0].Path, needs([2]int{5, 1})},
		flanking{"past three", track([]int{T, T, T, T, P}, [4]int{0, 2, 3, 1}, [4]int{1, 2, 4, 0}, [4]int{2, 1, 0, 1}), -1, steps([3]int{1, 0, 1}, [3]int{0, 1, 1}), needs([2]int{3, 2})},
	)
}

// P6.1: any path, on any configuration: steps by no way have all the ends that they don't name; what is no section has no ends, and is no Point.
func TestFlankOfAnything(t *testing.T) {
	T, D := api.Point, api.Diamond
	web := track([]int{D, T, T, T, T}, [4]int{0, 0, 1, 1}, [4]int{0, 1, 2, 2}, [4]int{0, 2, 3, 1}, [4]int{0, 3, 4, 2})
	all := needs([2]int{1, 2}, [2]int{2, 1}, [2]int{3, 2}, [2]int{4, 1})
	kindless := copied(web)
	kindless.Sections[0].Kind = 3
	below := copied(web)
	below.Sections[0].Kind = -1
	wrong := track([]int{T, T, 3, -1}, [4]int{0, 0, 1, 3}, [4]int{0, 1, 1, -1}, [4]int{0, 2, 1, math.MinInt})
	away := track([]int{T, T}, [4]int{0, 0, 2, 1}, [4]int{0, 1, -1, 1}, [4]int{math.MinInt, 2, 0, 2}, [4]int{2, 0, 1, 1}, [4]int{-1, 0, 1, 2})
	self := track([]int{T}, [4]int{0, 1, 0, 2})
	first := track([]int{T, T, T}, [4]int{0, 2, 1, 1}, [4]int{0, 2, 2, 1}, [4]int{1, 2, 0, 2})
	stray := track([]int{api.Plain, T}, [4]int{0, 2, 1, 1}, [4]int{0, -1, 1, 2})
	flanks(t,
		flanking{"no ends named", web, -1, steps([3]int{0, -1, -1}), all},
		flanking{"far ends named", web, -1, steps([3]int{0, math.MaxInt, math.MinInt}), all},
		flanking{"one end named twice", web, -1, steps([3]int{0, 2, 2}), needs([2]int{1, 2}, [2]int{2, 1}, [2]int{4, 1})},
		flanking{"only In named", web, -1, steps([3]int{0, 0, 9}), all[1:]},
		flanking{"only Out named", web, -1, steps([3]int{0, 9, 3}), all[:3]},
		flanking{"steps that there aren't", web, -1, steps([3]int{5, 0, 1}, [3]int{-1, 0, 1}, [3]int{math.MinInt, 0, 1}, [3]int{math.MaxInt, 0, 1}), nil},
		flanking{"one of them there", web, 3, steps([3]int{5, 0, 1}, [3]int{0, 1, 2}, [3]int{-1, 0, 1}), needs([2]int{1, 2}, [2]int{4, 1})},
		flanking{"a step that there isn't, in a joint", away, -1, steps([3]int{2, -1, -1}, [3]int{-1, -1, -1}), nil},
		flanking{"a kind that is none", kindless, -1, steps([3]int{0, -1, -1}), nil},
		flanking{"a kind below", below, -1, steps([3]int{0, -1, -1}), nil},
		flanking{"ends that are no legs", wrong, -1, steps([3]int{0, -1, -1}), nil},
		flanking{"a leg of no section", away, -1, steps([3]int{0, -1, -1}), nil},
		flanking{"an approach of no section", away, -1, steps([3]int{0, 0, 1}), nil},
		flanking{"its own leg", self, -1, steps([3]int{0, 0, 9}), nil},
		flanking{"the first joint's", first, -1, steps([3]int{0, 0, 1}), needs([2]int{1, 2})},
		flanking{"an end that the kind hasn't", stray, -1, steps([3]int{0, 0, 1}), nil},
		flanking{"nothing", api.Config{}, 0, steps([3]int{0, 0, 1}), nil},
	)
}

// P6.1: the overlap, and each of the chapter's reasons for which there is none.
func TestOverlap(t *testing.T) {
	c := double()
	over := func(change func(*api.Config, *api.Route)) []int {
		c := double()
		r := c.Routes[0]
		change(&c, &r)
		return conf.Overlap(c, r)
	}
	for r, want := range [][]int{{3}, nil, nil, nil, nil, nil, nil} {
		if got := conf.Overlap(c, c.Routes[r]); !slices.Equal(got, want) {
			t.Errorf("of %d: %v, want %v", r, got, want)
		}
	}
	for name, f := range map[string]func(*api.Config, *api.Route){
		"it is Shunt":              func(c *api.Config, r *api.Route) { r.Shunt = true },
		"its Exit is -1":           func(c *api.Config, r *api.Route) { r.Exit = -1 },
		"its Exit is no signal":    func(c *api.Config, r *api.Route) { r.Exit = 5 },
		"its Exit is below":        func(c *api.Config, r *api.Route) { r.Exit = -2 },
		"its Exit is far":          func(c *api.Config, r *api.Route) { r.Exit = math.MaxInt },
		"its Exit is far below":    func(c *api.Config, r *api.Route) { r.Exit = math.MinInt },
		"nothing beyond":           func(c *api.Config, r *api.Route) { c.Joints = slices.Delete(c.Joints, 2, 3) },
		"no section beyond":        func(c *api.Config, r *api.Route) { c.Joints[2].B = 8 },
		"no section beyond, below": func(c *api.Config, r *api.Route) { c.Joints[2].B = -1 },
		"a signal at no end":       func(c *api.Config, r *api.Route) { c.Signals[1].End = 2 },
		"a signal in no section":   func(c *api.Config, r *api.Route) { c.Signals[1].Section = -1 },
		"it is a line":             func(c *api.Config, r *api.Route) { c.Sections[3].Line = 1 },
		"it is an odd line":        func(c *api.Config, r *api.Route) { c.Sections[3].Line = -1 },
		"it is the approach":       func(c *api.Config, r *api.Route) { c.Signals[0].Section = 3 },
		"it is in the path, first": func(c *api.Config, r *api.Route) { r.Path = append(steps([3]int{3, 9, 9}), r.Path...) },
		"it is in the path, last":  func(c *api.Config, r *api.Route) { r.Path = append(slices.Clone(r.Path), steps([3]int{3, 0, 1})...) },
		"nothing at all":           func(c *api.Config, r *api.Route) { *c = api.Config{} },
	} {
		if got := over(f); len(got) != 0 {
			t.Errorf("%s: %v", name, got)
		}
	}
	for name, f := range map[string]func(*api.Config, *api.Route){
		"as it is":             func(c *api.Config, r *api.Route) {},
		"without a path":       func(c *api.Config, r *api.Route) { r.Path = nil },
		"with an odd path":     func(c *api.Config, r *api.Route) { r.Path = steps([3]int{-1, 3, 3}, [3]int{99, 0, 0}) },
		"without an entry":     func(c *api.Config, r *api.Route) { r.Entry = -1 },
		"with a far entry":     func(c *api.Config, r *api.Route) { r.Entry = math.MaxInt },
		"with an odd approach": func(c *api.Config, r *api.Route) { c.Signals[0].Section = -1 },
		"with a far approach":  func(c *api.Config, r *api.Route) { c.Signals[0].Section = 8 },
		"whatever it has":      func(c *api.Config, r *api.Route) { r.Overlap, r.Flank = []int{7, 8}, needs([2]int{3, 1}) },
		"a Point":              func(c *api.Config, r *api.Route) { c.Sections[3].Kind = api.Point },
		"an odd kind":          func(c *api.Config, r *api.Route) { c.Sections[3].Kind = 9 },
		"at its other end":     func(c *api.Config, r *api.Route) { c.Joints[2].BEnd = 1 },
	} {
		if got := over(f); !slices.Equal(got, []int{3}) {
			t.Errorf("%s: %v", name, got)
		}
	}
}

// P6.1: what a route locks, as it is configured, right or not; each section once, rising.
func TestLocks(t *testing.T) {
	c := double()
	for r, want := range [][]int{{1, 2, 3, 5}, {1, 5, 6}, {1, 5, 6}, {7}, {1, 2, 5}, {1, 4, 5, 6}, {3}} {
		if got := conf.Locks(c, r); !slices.Equal(got, want) {
			t.Errorf("of %d: %v, want %v", r, got, want)
		}
	}
	for _, r := range []int{math.MinInt, -2, -1, 7, 8, math.MaxInt} {
		if got := conf.Locks(c, r); len(got) != 0 {
			t.Errorf("of %d: %v", r, got)
		}
	}
	c.Routes[3] = api.Route{Entry: -5, Exit: -5, Path: steps([3]int{9, 0, 0}, [3]int{-3, 0, 0}, [3]int{9, 1, 1}, [3]int{4, 0, 0}), Flank: needs([2]int{4, 8}, [2]int{0, 0}, [2]int{math.MaxInt, 0}, [2]int{0, 1}), Overlap: []int{2, math.MinInt, 9, 2, 7}}
	if got := conf.Locks(c, 3); !slices.Equal(got, []int{math.MinInt, -3, 0, 2, 4, 7, 9, math.MaxInt}) {
		t.Errorf("of an odd one: %v", got)
	}
	for name, r := range map[string]api.Route{
		"only a path":     {Path: steps([3]int{7, 1, 2}, [3]int{6, 1, 2})},
		"only a flank":    {Flank: needs([2]int{7, 1}, [2]int{6, 1})},
		"only an overlap": {Overlap: []int{7, 6}},
	} {
		c.Routes[3] = r
		if got := conf.Locks(c, 3); !slices.Equal(got, []int{6, 7}) {
			t.Errorf("%s: %v", name, got)
		}
	}
	c.Routes[3] = api.Route{}
	if got := conf.Locks(c, 3); len(got) != 0 {
		t.Errorf("of an empty one: %v", got)
	}
	if got := conf.Locks(api.Config{}, 0); len(got) != 0 {
		t.Errorf("of nothing: %v", got)
	}
}

// P6.1: two routes are in conflict just if both lock a section, by whichever part; one that is none is in no conflict.
func TestConflict(t *testing.T) {
	c := double()
	apart := map[[2]int]int{{0, 3}: 1, {1, 3}: 1, {2, 3}: 1, {3, 4}: 1, {3, 5}: 1, {1, 6}: 1, {2, 6}: 1, {3, 6}: 1, {4, 6}: 1, {5, 6}: 1}
	for a := range c.Routes {
		for b := range c.Routes {
			want := apart[[2]int{a, b}] == 0 && apart[[2]int{b, a}] == 0
			if got := conf.Conflict(c, a, b); got != want {
				t.Errorf("%d with %d: %t", a, b, got)
			}
		}
		for _, r := range []int{math.MinInt, -1, 7, math.MaxInt} {
			if conf.Conflict(c, a, r) || conf.Conflict(c, r, a) || conf.Conflict(c, r, r) {
				t.Errorf("%d with %d", a, r)
			}
		}
	}
	parts := []api.Route{{Path: steps([3]int{5, 0, 1}, [3]int{6, 0, 1})}, {Flank: needs([2]int{6, 1}, [2]int{7, 1})}, {Overlap: []int{8, 6}}, {Path: steps([3]int{1, 6, 6}), Flank: needs([2]int{2, 6})}, {Path: steps([3]int{-9, 0, 0}), Overlap: []int{1}}}
	odd := api.Config{Routes: append(parts, api.Route{})}
	for a := range 6 {
		for b := range 6 {
			want := a < 3 && b < 3 || a >= 3 && b >= 3 && a < 5 && b < 5
			if got := conf.Conflict(odd, a, b); got != want {
				t.Errorf("odd %d with %d: %t", a, b, got)
			}
		}
	}
}

// P6.1: on stations that are thrown together, right ones and spoilt ones, flank, overlap, approach and locks are what is worked out here.
func TestRoutesThrown(t *testing.T) {
	d, count := dice(61), map[string]int{}
	for range 4000 {
		c := thrown(&d)
		for range 4 {
			for i, r := range c.Routes {
				approach := conf.Approach(c, i)
				flank, overlap := conf.Flank(c, approach, r.Path...), conf.Overlap(c, r)
				if want := flankOf(c, approach, r.Path); !slices.Equal(flank, want) {
					t.Fatalf("%v: Flank of %d = %v, want %v", c, i, flank, want)
				}
				if want := overlapOf(c, r); !slices.Equal(overlap, want) {
					t.Fatalf("%v: Overlap of %d = %v, want %v", c, i, overlap, want)
				}
				locksRight(t, c, i)
				count["flank"] += len(flank)
				count["overlap"] += len(overlap)
			}
			c = spoilt(&d, c)
		}
	}
	if count["flank"] < 10000 || count["overlap"] < 10000 {
		t.Errorf("%v", count)
	}
}

// locksRight holds Locks against the route's parts: each of them is in it, it has no other, it rises.
func locksRight(t *testing.T, c api.Config, r int) {
	t.Helper()
	parts := map[int]int{}
	for _, s := range c.Routes[r].Path {
		parts[s.Section]++
	}
	for _, n := range c.Routes[r].Flank {
		parts[n.Section]++
	}
	for _, section := range c.Routes[r].Overlap {
		parts[section]++
	}
	list := conf.Locks(c, r)
	for i, section := range list {
		if parts[section] == 0 || i > 0 && list[i-1] >= section {
			t.Fatalf("%v: Locks of %d = %v", c, r, list)
		}
	}
	if len(list) != len(parts) {
		t.Fatalf("%v: Locks of %d = %v", c, r, list)
	}
}

// P6.2: of right stations each route's path is a train's way with its points as it has them; it doesn't lock its approach; conflicts go both ways round, and each route is in conflict with itself.
func TestRightStations(t *testing.T) {
	d, routes, conflicts := dice(62), 0, map[bool]int{}
	list := stations()
	for range 3000 {
		list = append(list, thrown(&d))
	}
	for _, c := range list {
		if e := conf.Check(c); e != api.OK {
			t.Fatalf("%v: %d", c, e)
		}
		for a, r := range c.Routes {
			routes++
			isWay(t, c, r)
			if section := conf.Approach(c, a); slices.Contains(conf.Locks(c, a), section) || section != c.Signals[r.Entry].Section {
				t.Fatalf("%v: %d locks its approach %d", c, a, section)
			}
			if !conf.Conflict(c, a, a) {
				t.Fatalf("%v: %d isn't in conflict with itself", c, a)
			}
			for b := range c.Routes {
				got := conf.Conflict(c, a, b)
				conflicts[got]++
				if conf.Conflict(c, b, a) != got {
					t.Fatalf("%v: %d with %d", c, a, b)
				}
			}
		}
	}
	if routes < 5000 || conflicts[true] < 10000 || conflicts[false] < 1000 {
		t.Errorf("%d routes, %v", routes, conflicts)
	}
}

// isWay holds a route's path against the way of a train that comes in beyond its entry signal.
func isWay(t *testing.T, c api.Config, r api.Route) {
	t.Helper()
	pos := make([]int, len(c.Sections))
	for _, s := range r.Path {
		pos[s.Section] = posOf(c.Sections[s.Section].Kind, s)
	}
	entry := c.Signals[r.Entry]
	section, in, ok := topo.Next(c.Joints, entry.Section, entry.End)
	way := topo.Follow(c.Sections, c.Joints, section, in, pos...)
	if !ok || len(way) < len(r.Path) || !slices.Equal(way[:len(r.Path)], r.Path) {
		t.Fatalf("%v: the path %v, the way %v", c, r.Path, way)
	}
	if r.Exit == -1 && len(way) != len(r.Path) {
		t.Fatalf("%v: the path %v ends, the way doesn't: %v", c, r.Path, way)
	}
}

// R4, R5: what is handed in stays as it is, its spare memory too; the same call answers the same, in new memory.
func TestNothingIsChanged(t *testing.T) {
	c := star()
	spare := []int{7, 6, 5, 4}
	path := append(slices.Clone(c.Routes[0].Path), steps([3]int{9, 9, 9}, [3]int{8, 8, 8})...)
	c.Routes[0].Overlap, c.Routes[0].Path = spare[:1], path[:3]
	before := copied(c)
	for range 2 {
		flank, overlap, list := conf.Flank(c, 0, c.Routes[0].Path...), conf.Overlap(c, c.Routes[0]), conf.Locks(c, 0)
		if !slices.Equal(flank, needs([2]int{3, 2})) || !slices.Equal(overlap, []int{7}) || !slices.Equal(list, []int{1, 2, 3, 5, 7}) {
			t.Errorf("%v, %v, %v", flank, overlap, list)
		}
		clear(flank)
		clear(overlap)
		clear(list)
		conf.Conflict(c, 0, 1)
		conf.Check(c)
		conf.Text(c)
	}
	if !same(c, before) || !slices.Equal(spare, []int{7, 6, 5, 4}) || !slices.Equal(path[3:], steps([3]int{9, 9, 9}, [3]int{8, 8, 8})) {
		t.Errorf("changed: %v, %v, %v", c, spare, path)
	}
}
