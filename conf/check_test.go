package conf_test

import (
	"math"
	"slices"
	"testing"

	"ballast/api"
	"ballast/conf"
	"ballast/topo"
)

// change spoils, or mends, a configuration.
type change func(*api.Config)

// checks holds Check of the double station, changed, against what should be answered.
func checks(t *testing.T, want api.Errno, list map[string]change) {
	t.Helper()
	for name, f := range list {
		c := double()
		f(&c)
		if e := conf.Check(c); e != want {
			t.Errorf("%s: %d, want %d", name, e, want)
		}
	}
}

// on sets the double station aside for another one.
func on(other api.Config, f change) change {
	return func(c *api.Config) {
		*c = copied(other)
		f(c)
	}
}

// P6.1: stations that are right, just at the limits too.
func TestCheckRight(t *testing.T) {
	for _, c := range stations() {
		if e := conf.Check(c); e != api.OK {
			t.Errorf("%v: %d", c, e)
		}
	}
	only := func(c *api.Config) { c.Joints, c.Signals, c.Crossings, c.Routes = nil, nil, nil, nil }
	checks(t, api.OK, map[string]change{
		"as it is":              func(c *api.Config) {},
		"no routes":             func(c *api.Config) { c.Routes = nil },
		"only sections":         only,
		"empty lists":           func(c *api.Config) { only(c); c.Signals, c.Routes = []api.Signal{}, []api.Route{} },
		"12 signals":            on(ring(16), func(c *api.Config) { c.Signals = c.Signals[:12] }),
		"signals face to face":  func(c *api.Config) { c.Signals = append(c.Signals, signals([2]int{3, 0})...) },
		"signals on a Point":    func(c *api.Config) { c.Signals = append(c.Signals, signals([2]int{1, 0}, [2]int{5, 2})...) },
		"4 crossings":           func(c *api.Config) { c.Crossings = []int{3, 0, 5, 1} },
		"a crossing at nought":  func(c *api.Config) { c.Crossings = []int{0} },
		"12 routes":             func(c *api.Config) { c.Routes = slices.Concat(c.Routes, c.Routes)[:12] },
		"8 steps":               on(row(9), func(c *api.Config) {}),
		"an exit in the path":   on(ring(4), func(c *api.Config) { c.Routes = c.Routes[:1] }),
		"another exit":          func(c *api.Config) { c.Signals = append(c.Signals, signals([2]int{2, 0})...) },
		"empty flank":           func(c *api.Config) { c.Routes[1].Flank, c.Routes[1].Overlap = []api.Need{}, []int{} },
		"no time to brake":      func(c *api.Config) { c.Timing = api.Timing{Age: 1, Brake: 0, Hold: 2, Budget: 1} },
		"the longest times":     func(c *api.Config) { c.Timing = api.Timing{Age: 8, Brake: 8, Hold: 40, Budget: 1000000} },
		"the least hold":        func(c *api.Config) { c.Timing = api.Timing{Age: 8, Brake: 8, Hold: 17, Budget: 77} },
		"the least hold, small": func(c *api.Config) { c.Timing.Hold = 6 },
	})
}

// P6.1: a plan that is wrong is the first that is told.
func TestCheckTopo(t *testing.T) {
	checks(t, api.ErrTopo, map[string]change{
		"nothing":              func(c *api.Config) { *c = api.Config{} },
		"no sections":          func(c *api.Config) { c.Sections = nil },
		"17 sections":          func(c *api.Config) { c.Sections = make([]api.Section, 17) },
		"an odd kind":          func(c *api.Config) { c.Sections[3].Kind = 3 },
		"an odd controller":    func(c *api.Config) { c.Sections[3].OC = 4 },
		"a line twice":         func(c *api.Config) { c.Sections[3].Line = 1 },
		"a joint with itself":  func(c *api.Config) { c.Joints[2].B = 2 },
		"a joint of no end":    func(c *api.Config) { c.Joints[2].BEnd = 2 },
		"a joint of a far one": func(c *api.Config) { c.Joints[2].B = math.MaxInt },
		"an end twice":         func(c *api.Config) { c.Joints = append(c.Joints, joints([4]int{0, 1, 3, 1})...) },
	})
}

// P6.1: signals that are too many, at no end that has a Next, or two at one end.
func TestCheckSignals(t *testing.T) {
	at := func(section, end int) change {
		return func(c *api.Config) { c.Signals = append(c.Signals, signals([2]int{section, end})...) }
	}
	checks(t, api.ErrSignal, map[string]change{
		"13":                   on(ring(16), func(c *api.Config) { c.Signals = append(c.Signals, signals([2]int{15, 1})...) }),
		"13, and no routes":    on(ring(16), func(c *api.Config) { c.Signals, c.Routes = append(c.Signals, signals([2]int{15, 1})...), nil }),
		"nothing beyond":       at(3, 1),
		"nothing beyond, west": at(0, 0),
		"at a line's end 1":    at(7, 1),
		"no end of a Plain":    at(2, 2),
		"no end of a Point":    at(1, 3),
		"an end below":         at(2, -1),
		"no section":           at(8, 0),
		"a section below":      at(-1, 0),
		"far":                  at(math.MaxInt, math.MinInt),
		"the first twice":      at(0, 1),
		"the last twice":       at(7, 0),
		"the first is none":    func(c *api.Config) { c.Signals[0].End = 0 },
		"the second is third":  func(c *api.Config) { c.Signals[1] = c.Signals[2] },
	})
}

// P6.1: crossings that are too many, no sections, with a line, or one twice.
func TestCheckCrossings(t *testing.T) {
	are := func(list ...int) change { return func(c *api.Config) { c.Crossings = list } }
	checks(t, api.ErrCrossing, map[string]change{
		"5":                are(0, 1, 2, 3, 4),
		"behind the last":  are(8),
		"below":            are(-1),
		"far":              are(2, math.MaxInt),
		"far below":        are(math.MinInt, 2),
		"a line":           are(7),
		"a line, the last": are(1, 2, 7),
		"twice":            are(2, 2),
		"twice, apart":     are(2, 1, 6, 2),
	})
}

// P6.1: routes that are wrong but for their flank and overlap, for each of the chapter's reasons; where it can be, in that one thing only.
func TestCheckRoutes(t *testing.T) {
	route := func(n int, f func(*api.Route)) change { return func(c *api.Config) { f(&c.Routes[n]) } }
	path := func(n int, list ...[3]int) change {
		return route(n, func(r *api.Route) { r.Path = steps(list...) })
	}
	balloon := track([]int{0, 1, 0}, [4]int{0, 1, 1, 0}, [4]int{1, 1, 2, 0}, [4]int{2, 1, 1, 2})
	balloon.Signals = signals([2]int{0, 1}, [2]int{1, 0})
	balloon.Routes = []api.Route{{Entry: 0, Exit: 1, Path: steps([3]int{1, 0, 1}, [3]int{2, 0, 1}, [3]int{1, 2, 0})}}
	eight := track([]int{0, 2, 0, 0}, [4]int{0, 1, 1, 0}, [4]int{1, 1, 2, 0}, [4]int{2, 1, 1, 2}, [4]int{1, 3, 3, 0})
	eight.Signals = signals([2]int{0, 1})
	eight.Routes = []api.Route{{Entry: 0, Exit: -1, Path: steps([3]int{1, 0, 1}, [3]int{2, 0, 1}, [3]int{1, 2, 3}, [3]int{3, 0, 1})}}
	round := ring(3)
	round.Signals = round.Signals[:1]
	round.Routes = []api.Route{{Entry: 0, Exit: 0, Path: steps([3]int{1, 0, 1}, [3]int{2, 0, 1}, [3]int{0, 0, 1})}}
	as := func(c *api.Config) {}
	checks(t, api.ErrRoute, map[string]change{
		"13":                              func(c *api.Config) { c.Routes = slices.Concat(c.Routes, c.Routes)[:13] },
		"an entry of -1":                  route(1, func(r *api.Route) { r.Entry = -1 }),
		"an entry behind the last":        route(1, func(r *api.Route) { r.Entry = 5 }),
		"a far entry":                     route(1, func(r *api.Route) { r.Entry = math.MinInt }),
		"an exit of -2":                   route(1, func(r *api.Route) { r.Exit = -2 }),
		"an exit behind the last":         route(1, func(r *api.Route) { r.Exit = 5 }),
		"a far exit":                      route(1, func(r *api.Route) { r.Exit = math.MaxInt }),
		"where the track ends, -2":        route(6, func(r *api.Route) { r.Exit = -2 }),
		"where the track ends, 5":         route(6, func(r *api.Route) { r.Exit = 5 }),
		"no path":                         path(1),
		"no path to where the track ends": path(6),
		"9 steps":                         on(row(10), as),
		"another entry":                   route(1, func(r *api.Route) { r.Entry = 2 }),
		"an entry the other way":          route(6, func(r *api.Route) { r.Entry = 0 }),
		"begins later":                    path(1, [3]int{5, 2, 0}, [3]int{6, 0, 1}),
		"begins in the approach":          path(1, [3]int{0, 0, 1}, [3]int{1, 0, 2}, [3]int{5, 2, 0}, [3]int{6, 0, 1}),
		"begins in another one":           path(6, [3]int{2, 0, 1}),
		"begins at another end":           path(6, [3]int{3, 1, 0}),
		"begins in no section":            path(6, [3]int{8, 0, 1}),
		"begins below":                    path(6, [3]int{-1, 0, 1}),
		"begins at no end":                path(6, [3]int{3, -1, 1}),
		"no way, leg to leg":              path(5, [3]int{6, 1, 0}, [3]int{5, 0, 1}, [3]int{4, 1, 1}),
		"no way, back":                    path(6, [3]int{3, 0, 0}),
		"no way, no end":                  path(6, [3]int{3, 0, 2}),
		"no way, below":                   path(6, [3]int{3, 0, -1}),
		"no way, far":                     path(6, [3]int{3, 0, math.MaxInt}),
		"no way ahead of the last":        path(1, [3]int{1, 0, 3}, [3]int{5, 2, 0}, [3]int{6, 0, 1}),
		"not the next one":                path(1, [3]int{1, 0, 2}, [3]int{6, 0, 1}),
		"not the next one, by its leg":    path(1, [3]int{1, 0, 1}, [3]int{5, 2, 0}, [3]int{6, 0, 1}),
		"not the next one's end":          path(2, [3]int{5, 1, 0}, [3]int{6, 1, 0}),
		"not the next one, by no section": path(1, [3]int{1, 0, 2}, [3]int{99, 2, 0}, [3]int{6, 0, 1}),
		"a step behind the track's end":   path(6, [3]int{3, 0, 1}, [3]int{0, 0, 1}),
		"a section twice":                 on(balloon, as),
		"a Diamond twice":                 on(eight, as),
		"the approach":                    on(round, as),
		"a signal ahead of its exit":      func(c *api.Config) { c.Signals = append(c.Signals, signals([2]int{1, 2})...) },
		"a signal at the first step":      func(c *api.Config) { c.Signals = append(c.Signals, signals([2]int{6, 0})...) },
		"its exit stands ahead":           route(1, func(r *api.Route) { r.Path = append(r.Path, steps([3]int{7, 0, 1})...) }),
		"its end stands ahead":            route(1, func(r *api.Route) { r.Exit, r.Path = -1, append(r.Path, steps([3]int{7, 0, 1})...) }),
		"another signal at its end":       route(1, func(r *api.Route) { r.Exit = 2 }),
		"its exit looks the other way":    route(2, func(r *api.Route) { r.Exit = 4 }),
		"its exit is its entry":           route(2, func(r *api.Route) { r.Exit = 2 }),
		"an exit at the track's end":      route(6, func(r *api.Route) { r.Exit = 1 }),
		"ends ahead of its exit":          path(2, [3]int{5, 1, 0}),
		"ends at a signal that isn't its": route(2, func(r *api.Route) { r.Exit = -1 }),
		"ends in the middle":              func(c *api.Config) { c.Routes[5].Path = c.Routes[5].Path[:2] },
		"Shunt on a line":                 route(3, func(r *api.Route) { r.Shunt = true }),
		"Shunt over a line":               on(overLine(), as),
	})
}

// overLine is a station with a Shunt route that begins in a line's section and goes on, wrong for that alone.
func overLine() api.Config {
	c := track([]int{0, 0, 0}, [4]int{0, 1, 1, 0}, [4]int{1, 1, 2, 0})
	c.Sections[2].Line = 3
	c.Signals = signals([2]int{0, 1})
	c.Routes = []api.Route{{Entry: 0, Exit: -1, Path: steps([3]int{1, 0, 1}, [3]int{2, 0, 1}), Shunt: true}}
	return c
}

// P6.1: what is right but for being Shunt on a line is right without it.
func TestCheckShunt(t *testing.T) {
	c := overLine()
	c.Routes[0].Shunt = false
	if e := conf.Check(c); e != api.OK {
		t.Errorf("not Shunt: %d", e)
	}
	c = overLine()
	c.Sections[2].Line = 0
	if e := conf.Check(c); e != api.OK {
		t.Errorf("no line: %d", e)
	}
}

// P6.1: flanks that aren't the path's.
func TestCheckFlank(t *testing.T) {
	has := func(n int, list ...[2]int) change {
		return func(c *api.Config) { c.Routes[n].Flank = needs(list...) }
	}
	pair := track([]int{0, 2, 1, 1}, [4]int{0, 1, 1, 0}, [4]int{1, 2, 2, 1}, [4]int{1, 3, 3, 2})
	pair.Signals = signals([2]int{0, 1})
	pair.Routes = []api.Route{{Entry: 0, Exit: -1, Path: steps([3]int{1, 0, 1}), Flank: needs([2]int{2, 2}, [2]int{3, 1})}}
	if e := conf.Check(pair); e != api.OK {
		t.Errorf("the pair: %d", e)
	}
	checks(t, api.ErrFlank, map[string]change{
		"none":                 has(0),
		"none, Shunt":          has(4),
		"another position":     has(0, [2]int{5, 2}),
		"no position":          has(0, [2]int{5, 0}),
		"another section":      has(0, [2]int{6, 1}),
		"one more":             has(0, [2]int{5, 1}, [2]int{6, 1}),
		"twice":                has(0, [2]int{5, 1}, [2]int{5, 1}),
		"one where none is":    has(6, [2]int{5, 1}),
		"its own Point":        has(1, [2]int{1, 2}),
		"no section":           has(3, [2]int{-1, 1}),
		"the first one only":   on(pair, has(0, [2]int{2, 2})),
		"the second one only":  on(pair, has(0, [2]int{3, 1})),
		"in another order":     on(pair, has(0, [2]int{3, 1}, [2]int{2, 2})),
		"the positions turned": on(pair, has(0, [2]int{2, 1}, [2]int{3, 2})),
	})
}

// P6.1: overlaps that aren't the route's.
func TestCheckOverlap(t *testing.T) {
	has := func(n int, list ...int) change { return func(c *api.Config) { c.Routes[n].Overlap = list } }
	checks(t, api.ErrOverlap, map[string]change{
		"none":            has(0),
		"another one":     has(0, 4),
		"one more":        has(0, 3, 4),
		"twice":           has(0, 3, 3),
		"Shunt":           has(4, 3),
		"a line":          has(1, 7),
		"no exit":         has(6, 3),
		"no section":      has(6, -1),
		"in the path":     on(ring(3), has(1, 2)),
		"the approach":    on(ring(2), has(0, 0)),
		"as it was Shunt": func(c *api.Config) { c.Routes[0].Shunt = true },
		"as it wasn't":    func(c *api.Config) { c.Routes[4].Shunt = false },
	})
}

// P6.1: times beyond their bounds.
func TestCheckTiming(t *testing.T) {
	is := func(age, brake, hold, budget int) change {
		return func(c *api.Config) {
			c.Timing = api.Timing{Age: age, Brake: brake, Hold: hold, Budget: budget}
		}
	}
	checks(t, api.ErrTiming, map[string]change{
		"none":            is(0, 0, 0, 0),
		"no age":          is(0, 2, 9, 5000),
		"an age below":    is(-1, 2, 9, 5000),
		"a great age":     is(9, 2, 20, 5000),
		"a far age":       is(math.MaxInt, 2, math.MinInt+2, 5000),
		"a brake below":   is(3, -1, 9, 5000),
		"a great brake":   is(3, 9, 20, 5000),
		"a far brake":     is(3, math.MaxInt, math.MinInt+3, 5000),
		"a short hold":    is(3, 2, 5, 5000),
		"a hold below":    is(3, 2, -9, 5000),
		"a hold, least":   is(8, 8, 16, 5000),
		"a long hold":     is(3, 2, 41, 5000),
		"a far hold":      is(3, 2, math.MaxInt, 5000),
		"no budget":       is(3, 2, 9, 0),
		"a budget below":  is(3, 2, 9, -1),
		"a great budget":  is(3, 2, 9, 1000001),
		"a far budget":    is(3, 2, 9, math.MaxInt),
		"the least, less": is(1, 0, 1, 1),
	})
}

// P6.1: of several errors the first that applies; of routes the first route's, whichever it is.
func TestCheckFirst(t *testing.T) {
	wrong := []struct {
		e api.Errno
		f change
	}{
		{api.ErrTopo, func(c *api.Config) { c.Sections[0].OC = 4 }},
		{api.ErrSignal, func(c *api.Config) { c.Signals = append(c.Signals, c.Signals[0]) }},
		{api.ErrCrossing, func(c *api.Config) { c.Crossings = []int{7} }},
		{api.ErrRoute, func(c *api.Config) { c.Routes[0].Entry = -1 }},
		{api.ErrFlank, func(c *api.Config) { c.Routes[0].Flank = nil }},
		{api.ErrOverlap, func(c *api.Config) { c.Routes[0].Overlap = nil }},
		{api.ErrTiming, func(c *api.Config) { c.Timing.Age = 0 }},
	}
	for set := 1; set < 1<<len(wrong); set++ {
		c, want := double(), api.OK
		for i, w := range slices.Backward(wrong) {
			if set>>i&1 == 1 {
				w.f(&c)
				want = w.e
			}
		}
		if e := conf.Check(c); e != want {
			t.Errorf("of the errors %b: %d, want %d", set, e, want)
		}
	}
	flank := func(n int) change {
		return func(c *api.Config) { c.Routes[n].Flank = append(c.Routes[n].Flank, needs([2]int{0, 1})...) }
	}
	overlap := func(n int) change {
		return func(c *api.Config) { c.Routes[n].Overlap = append(c.Routes[n].Overlap, 0) }
	}
	path := func(n int) change { return func(c *api.Config) { c.Routes[n].Path = nil } }
	kinds := map[api.Errno]func(int) change{api.ErrRoute: path, api.ErrFlank: flank, api.ErrOverlap: overlap}
	for first, one := range kinds {
		for _, other := range kinds {
			for a := range 7 {
				for b := a + 1; b < 7; b++ {
					checks(t, first, map[string]change{"two routes": func(c *api.Config) { other(b)(c); one(a)(c) }})
				}
			}
		}
	}
	checks(t, api.ErrRoute, map[string]change{
		"13, the first with a wrong flank": func(c *api.Config) { c.Routes = slices.Concat(c.Routes, c.Routes)[:13]; flank(0)(c) },
	})
}

// errorOf is what Check should answer of a configuration on a right plan: the chapter's list said another way.
func errorOf(c api.Config) api.Errno {
	ends, places, crossings := map[[2]int][2]int{}, map[[2]int]int{}, map[int]int{}
	for _, j := range c.Joints {
		a, b := [2]int{j.A, j.AEnd}, [2]int{j.B, j.BEnd}
		ends[a], ends[b] = b, a
	}
	for i, s := range c.Signals {
		place := [2]int{s.Section, s.End}
		if _, ok := ends[place]; !ok || places[place] > 0 {
			return api.ErrSignal
		}
		places[place] = i + 1
	}
	for _, section := range c.Crossings {
		crossings[section]++
		if section < 0 || section >= len(c.Sections) || c.Sections[section].Line > 0 || crossings[section] > 1 {
			return api.ErrCrossing
		}
	}
	for _, r := range c.Routes {
		if wrongRoute(c, r, ends, places) {
			return api.ErrRoute
		}
		if !slices.Equal(r.Flank, flankOf(c, c.Signals[r.Entry].Section, r.Path)) {
			return api.ErrFlank
		}
		if !slices.Equal(r.Overlap, overlapOf(c, r)) {
			return api.ErrOverlap
		}
	}
	m := c.Timing
	if m.Age < 1 || m.Age > 8 || m.Brake < 0 || m.Brake > 8 || m.Hold <= m.Age+m.Brake || m.Hold > 40 || m.Budget < 1 || m.Budget > 1000000 {
		return api.ErrTiming
	}
	return api.OK
}

// wrongRoute goes along the path by the ends that meet, and by the signals' numbers (plus 1) at their places.
func wrongRoute(c api.Config, r api.Route, ends map[[2]int][2]int, places map[[2]int]int) bool {
	if r.Entry < 0 || r.Entry >= len(c.Signals) || r.Exit < -1 || r.Exit >= len(c.Signals) || len(r.Path) == 0 || len(r.Path) > 8 {
		return true
	}
	from := [2]int{c.Signals[r.Entry].Section, c.Signals[r.Entry].End}
	seen := map[int]int{from[0]: 1}
	for i, s := range r.Path {
		if to, ok := ends[from]; !ok || to != [2]int{s.Section, s.In} {
			return true
		}
		seen[s.Section]++
		kind, line := c.Sections[s.Section].Kind, c.Sections[s.Section].Line
		way := slices.Contains(waysOf[kind], [2]int{s.In, s.Out}) || slices.Contains(waysOf[kind], [2]int{s.Out, s.In})
		if !way || seen[s.Section] > 1 || r.Shunt && line > 0 {
			return true
		}
		from = [2]int{s.Section, s.Out}
		if i < len(r.Path)-1 && places[from] > 0 {
			return true
		}
	}
	_, on := ends[from]
	return places[from] != r.Exit+1 || r.Exit == -1 && on
}

// topoError is the lower layer's to say.
func topoError(c api.Config) api.Errno { return topo.Check(c.Sections, c.Joints) }

// P6.1: stations that are thrown together, with nothing, one thing or some things spoilt.
func TestCheckThrown(t *testing.T) {
	d, count := dice(6), map[api.Errno]int{}
	for range 6000 {
		c := thrown(&d)
		if e := errorOf(c); e != api.OK {
			t.Fatalf("thrown wrong: %v: %d", c, e)
		}
		for range 4 {
			want := topoError(c)
			if want == api.OK {
				want = errorOf(c)
			}
			if e := conf.Check(c); e != want {
				t.Fatalf("%v: %d, want %d", c, e, want)
			}
			count[want]++
			c = spoilt(&d, c)
		}
	}
	for _, e := range []api.Errno{api.OK, api.ErrTopo, api.ErrSignal, api.ErrCrossing, api.ErrRoute, api.ErrFlank, api.ErrOverlap, api.ErrTiming} {
		if count[e] < 100 {
			t.Errorf("%d: %d times", e, count[e])
		}
	}
}

// P6.1: configurations of any numbers are answered, right or not.
func TestCheckAnything(t *testing.T) {
	d := dice(66)
	for range 3000 {
		c := anything(&d)
		if e := conf.Check(c); e < api.ErrTopo || e > api.ErrTiming {
			t.Fatalf("%v: %d", c, e)
		}
		for r := range c.Routes {
			conf.Overlap(c, c.Routes[r])
			conf.Flank(c, conf.Approach(c, r), c.Routes[r].Path...)
			locksRight(t, c, r)
		}
	}
}
