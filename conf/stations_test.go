package conf_test

import (
	"math"
	"slices"

	"ballast/api"
)

// Tracks and routes, written by their numbers.

func sections(list ...[3]int) []api.Section {
	var all []api.Section
	for _, n := range list {
		all = append(all, api.Section{Kind: n[0], OC: n[1], Line: n[2]})
	}
	return all
}

func joints(list ...[4]int) []api.Joint {
	var all []api.Joint
	for _, n := range list {
		all = append(all, api.Joint{A: n[0], AEnd: n[1], B: n[2], BEnd: n[3]})
	}
	return all
}

func signals(list ...[2]int) []api.Signal {
	var all []api.Signal
	for _, n := range list {
		all = append(all, api.Signal{Section: n[0], End: n[1]})
	}
	return all
}

func steps(list ...[3]int) []api.Step {
	var all []api.Step
	for _, n := range list {
		all = append(all, api.Step{Section: n[0], In: n[1], Out: n[2]})
	}
	return all
}

func needs(list ...[2]int) []api.Need {
	var all []api.Need
	for _, n := range list {
		all = append(all, api.Need{Section: n[0], Pos: n[1]})
	}
	return all
}

// track is a station without signals and routes: sections by their kinds, and joints.
func track(kinds []int, list ...[4]int) api.Config {
	c := api.Config{Joints: joints(list...), Timing: api.Timing{Age: 2, Brake: 1, Hold: 4, Budget: 1000}}
	for _, kind := range kinds {
		c.Sections = append(c.Sections, api.Section{Kind: kind})
	}
	return c
}

// small is the station of the chapter's examples, with the second one's route.
func small() api.Config {
	return api.Config{
		Sections: sections([3]int{0, 0, 0}, [3]int{1, 0, 0}, [3]int{0, 0, 0}, [3]int{0, 0, 0}, [3]int{0, 0, 1}),
		Joints:   joints([4]int{0, 1, 1, 0}, [4]int{1, 1, 2, 0}, [4]int{1, 2, 3, 0}, [4]int{2, 1, 4, 0}),
		Signals:  signals([2]int{0, 1}, [2]int{2, 1}),
		Routes: []api.Route{
			{Entry: 0, Exit: 1, Path: steps([3]int{1, 0, 1}, [3]int{2, 0, 1})},
			{Entry: 1, Exit: -1, Path: steps([3]int{4, 0, 1})},
		},
		Timing: api.Timing{Age: 2, Brake: 1, Hold: 4, Budget: 1000},
	}
}

// double is a station of two tracks, 0 1 2 3 and 4 5 6 7, with a way from the one's Point 1 to the other's Point 5; 7 is a line.
func double() api.Config {
	return api.Config{
		Sections:  sections([3]int{0, 0, 0}, [3]int{1, 0, 0}, [3]int{0, 1, 0}, [3]int{0, 2, 0}, [3]int{0, 0, 0}, [3]int{1, 3, 0}, [3]int{0, 1, 0}, [3]int{0, 2, 1}),
		Joints:    joints([4]int{0, 1, 1, 0}, [4]int{1, 1, 2, 0}, [4]int{2, 1, 3, 0}, [4]int{4, 1, 5, 1}, [4]int{6, 0, 5, 0}, [4]int{6, 1, 7, 0}, [4]int{5, 2, 1, 2}),
		Signals:   signals([2]int{0, 1}, [2]int{2, 1}, [2]int{4, 1}, [2]int{6, 1}, [2]int{7, 0}),
		Crossings: []int{6, 2},
		Routes: []api.Route{
			{Entry: 0, Exit: 1, Path: steps([3]int{1, 0, 1}, [3]int{2, 0, 1}), Flank: needs([2]int{5, 1}), Overlap: []int{3}},
			{Entry: 0, Exit: 3, Path: steps([3]int{1, 0, 2}, [3]int{5, 2, 0}, [3]int{6, 0, 1})},
			{Entry: 2, Exit: 3, Path: steps([3]int{5, 1, 0}, [3]int{6, 0, 1}), Flank: needs([2]int{1, 1})},
			{Entry: 3, Exit: -1, Path: steps([3]int{7, 0, 1})},
			{Entry: 0, Exit: 1, Path: steps([3]int{1, 0, 1}, [3]int{2, 0, 1}), Flank: needs([2]int{5, 1}), Shunt: true},
			{Entry: 4, Exit: -1, Path: steps([3]int{6, 1, 0}, [3]int{5, 0, 1}, [3]int{4, 1, 0}), Flank: needs([2]int{1, 1})},
			{Entry: 1, Exit: -1, Path: steps([3]int{3, 0, 1}), Shunt: true},
		},
		Timing: api.Timing{Age: 3, Brake: 2, Hold: 9, Budget: 5000},
	}
}

// star is a station about the Diamond 1: its ends 2 and 3 meet both legs of the Point 3, its end 1 leads by the Plain 2 to the leg 1 of the Point 5, whose other leg meets the Diamond 6.
func star() api.Config {
	c := track([]int{0, 2, 0, 1, 0, 1, 2, 0},
		[4]int{0, 1, 1, 0}, [4]int{1, 1, 2, 0}, [4]int{1, 2, 3, 1}, [4]int{3, 2, 1, 3}, [4]int{3, 0, 4, 0}, [4]int{2, 1, 5, 1}, [4]int{6, 0, 5, 2}, [4]int{5, 0, 7, 0})
	c.Signals = signals([2]int{0, 1}, [2]int{5, 0}, [2]int{6, 0})
	c.Routes = []api.Route{
		{Entry: 0, Exit: 1, Path: steps([3]int{1, 0, 1}, [3]int{2, 0, 1}, [3]int{5, 1, 0}), Flank: needs([2]int{3, 2}), Overlap: []int{7}},
		{Entry: 1, Exit: -1, Path: steps([3]int{7, 0, 1})},
	}
	return c
}

// ring is a station of sections in a ring, each with a signal; each route goes on to the next signal, with the section behind it for an overlap.
func ring(size int) api.Config {
	c := track(make([]int, size))
	for i := range size {
		c.Joints = append(c.Joints, joints([4]int{i, 1, (i + 1) % size, 0})...)
	}
	for i := range min(size, api.MaxSignals) {
		c.Signals = append(c.Signals, signals([2]int{i, 1})...)
	}
	for i := range len(c.Signals) - 1 {
		r := api.Route{Entry: i, Exit: i + 1, Path: steps([3]int{i + 1, 0, 1})}
		if over := (i + 2) % size; over != i {
			r.Overlap = []int{over}
		}
		c.Routes = append(c.Routes, r)
	}
	return c
}

// row is a station of so many Plains, one behind the other, with a route from the first to the last.
func row(size int) api.Config {
	c := track(make([]int, size))
	r := api.Route{Entry: 0, Exit: -1}
	for i := range size - 1 {
		c.Joints = append(c.Joints, joints([4]int{i, 1, i + 1, 0})...)
		r.Path = append(r.Path, steps([3]int{i + 1, 0, 1})...)
	}
	c.Signals = signals([2]int{0, 1})
	c.Routes = []api.Route{r}
	return c
}

// stations are right ones of all sorts.
func stations() []api.Config {
	return []api.Config{small(), double(), star(), ring(2), ring(3), ring(12), ring(16), row(2), row(9)}
}

// copied shares no memory with the configuration.
func copied(c api.Config) api.Config {
	c.Sections, c.Joints, c.Signals, c.Crossings, c.Routes = slices.Clone(c.Sections), slices.Clone(c.Joints), slices.Clone(c.Signals), slices.Clone(c.Crossings), slices.Clone(c.Routes)
	for i := range c.Routes {
		r := &c.Routes[i]
		r.Path, r.Flank, r.Overlap = slices.Clone(r.Path), slices.Clone(r.Flank), slices.Clone(r.Overlap)
	}
	return c
}

// same tells whether two configurations are equal; a list that is nil is as one without elements.
func same(a, b api.Config) bool {
	return slices.Equal(a.Sections, b.Sections) && slices.Equal(a.Joints, b.Joints) && slices.Equal(a.Signals, b.Signals) && slices.Equal(a.Crossings, b.Crossings) &&
		slices.EqualFunc(a.Routes, b.Routes, sameRoute) && a.Timing == b.Timing
}

func sameRoute(a, b api.Route) bool {
	return a.Entry == b.Entry && a.Exit == b.Exit && a.Shunt == b.Shunt && slices.Equal(a.Path, b.Path) && slices.Equal(a.Flank, b.Flank) && slices.Equal(a.Overlap, b.Overlap)
}

// odd are numbers that are mostly none of anything.
var odd = []int{math.MinInt, math.MinInt + 1, math.MinInt32, -256, -4, -3, -2, -1, 4, 5, 13, 16, 17, 256, 1 << 32, math.MaxInt - 1, math.MaxInt}

// dice throws the same row of numbers each time.
type dice uint64

func (d *dice) throw(sides int) int {
	*d = *d*6364136223846793005 + 1442695040888963407
	return int(uint64(*d) >> 33 % uint64(sides))
}

// number is a small number, now and then an odd one.
func (d *dice) number() int {
	if d.throw(12) == 0 {
		return odd[d.throw(len(odd))]
	}
	return d.throw(10) - 1
}

// endsOf has how many ends a section of each kind has.
var endsOf = []int{2, 3, 4}

// waysOf has the ways through a section of each kind, one way round.
var waysOf = [][][2]int{{{0, 1}}, {{0, 1}, {0, 2}}, {{0, 1}, {2, 3}}}

// posOf is the position in which a way of a section goes.
func posOf(kind int, s api.Step) int {
	if kind != api.Point {
		return api.Nowhere
	}
	return max(s.In, s.Out)
}

// thrownTrack is a right plan: all ends joined by pairs as they come, as far as the limits and the lines let them.
func thrownTrack(d *dice) api.Config {
	c := api.Config{Sections: make([]api.Section, 2+d.throw(15))}
	line := 0
	ends := [][2]int{}
	for i := range c.Sections {
		s := &c.Sections[i]
		s.Kind, s.OC = d.throw(3), d.throw(4)
		last := endsOf[s.Kind]
		if s.Kind == api.Plain && line < 3 && d.throw(3) == 0 {
			line++
			s.Line, last = line, 1
		}
		for end := range last {
			ends = append(ends, [2]int{i, end})
		}
	}
	for i := range ends {
		k := i + d.throw(len(ends)-i)
		ends[i], ends[k] = ends[k], ends[i]
	}
	for ; len(ends) > 1 && len(c.Joints) < api.MaxJoints; ends = ends[2:] {
		if a, b := ends[0], ends[1]; a[0] != b[0] && d.throw(8) > 0 {
			c.Joints = append(c.Joints, joints([4]int{a[0], a[1], b[0], b[1]})...)
		}
	}
	return c
}

// thrown is a right station on such a plan, with flanks and overlaps as they are worked out here.
func thrown(d *dice) api.Config {
	c := thrownTrack(d)
	for _, j := range c.Joints {
		for _, s := range signals([2]int{j.A, j.AEnd}, [2]int{j.B, j.BEnd}) {
			if len(c.Signals) < api.MaxSignals && d.throw(3) == 0 {
				c.Signals = append(c.Signals, s)
			}
		}
	}
	for i, s := range c.Sections {
		if s.Line == 0 && len(c.Crossings) < api.MaxCrossings && d.throw(5) == 0 {
			c.Crossings = append(c.Crossings, i)
		}
	}
	for range 3 {
		for entry := range c.Signals {
			r, ok := thrownRoute(d, c, entry)
			if ok && len(c.Routes) < api.MaxRoutes {
				c.Routes = append(c.Routes, r)
			}
		}
	}
	age, brake := 1+d.throw(api.MaxAge), d.throw(api.MaxBrake+1)
	least := age + brake + 1
	c.Timing = api.Timing{Age: age, Brake: brake, Hold: least + d.throw(api.MaxHold-least+1), Budget: 1 + d.throw(api.MaxBudget)}
	return c
}

// thrownRoute goes from a signal by ways as they come, till a signal or the track's end; false, if that is no route.
func thrownRoute(d *dice, c api.Config, entry int) (api.Route, bool) {
	r := api.Route{Entry: entry, Exit: -1}
	seen := map[int]int{c.Signals[entry].Section: 1}
	at, ok := met(c, [2]int{c.Signals[entry].Section, c.Signals[entry].End})
	onLine := false
	for ok && r.Exit == -1 {
		s := c.Sections[at[0]]
		out := []int{}
		for _, w := range waysOf[s.Kind] {
			if w[0] == at[1] {
				out = append(out, w[1])
			} else if w[1] == at[1] {
				out = append(out, w[0])
			}
		}
		seen[at[0]]++
		if seen[at[0]] > 1 || len(r.Path) == api.MaxPath {
			return r, false
		}
		onLine = onLine || s.Line > 0
		step := api.Step{Section: at[0], In: at[1], Out: out[d.throw(len(out))]}
		r.Path = append(r.Path, step)
		r.Exit = slices.Index(c.Signals, api.Signal{Section: step.Section, End: step.Out})
		at, ok = met(c, [2]int{step.Section, step.Out})
	}
	r.Shunt = !onLine && d.throw(3) == 0
	r.Flank = flankOf(c, c.Signals[entry].Section, r.Path)
	r.Overlap = overlapOf(c, r)
	return r, true
}

// met is the end that meets this one.
func met(c api.Config, end [2]int) ([2]int, bool) {
	for _, j := range c.Joints {
		a, b := [2]int{j.A, j.AEnd}, [2]int{j.B, j.BEnd}
		if a == end {
			return b, true
		}
		if b == end {
			return a, true
		}
	}
	return [2]int{}, false
}

// flankOf is the flank, worked out from the Points' legs: which of them are met, and where in the path first.
func flankOf(c api.Config, approach int, path []api.Step) []api.Need {
	meets := map[[2]int][2]int{} // by a leg, where it is met: step and end
	for i, step := range slices.Backward(path) {
		for end := 3; end >= 0; end-- {
			inside := step.Section >= 0 && step.Section < len(c.Sections)
			if !inside || end == step.In || end == step.Out || c.Sections[step.Section].Kind < 0 || c.Sections[step.Section].Kind > 2 || end >= endsOf[c.Sections[step.Section].Kind] {
				continue
			}
			if leg, ok := met(c, [2]int{step.Section, end}); ok {
				meets[leg] = [2]int{i, end}
			}
		}
	}
	where := map[[2]int]api.Need{}
	for section, s := range c.Sections {
		if s.Kind != api.Point || section == approach || slices.ContainsFunc(path, func(s api.Step) bool { return s.Section == section }) {
			continue
		}
		one, isOne := meets[[2]int{section, 1}]
		two, isTwo := meets[[2]int{section, 2}]
		if isOne && (!isTwo || slices.Compare(one[:], two[:]) < 0) {
			where[one] = api.Need{Section: section, Pos: api.Reverse}
		} else if isTwo {
			where[two] = api.Need{Section: section, Pos: api.Normal}
		}
	}
	var flank []api.Need
	for i := range path {
		for end := range 4 {
			if need, ok := where[[2]int{i, end}]; ok {
				flank = append(flank, need)
			}
		}
	}
	return flank
}

// overlapOf is the overlap, out of all sections: the one that has all that an overlap must have.
func overlapOf(c api.Config, r api.Route) []int {
	var overlap []int
	for section, s := range c.Sections {
		if r.Shunt || r.Exit < 0 || r.Exit >= len(c.Signals) || s.Line != 0 {
			continue
		}
		end, ok := met(c, [2]int{c.Signals[r.Exit].Section, c.Signals[r.Exit].End})
		isApproach := r.Entry >= 0 && r.Entry < len(c.Signals) && c.Signals[r.Entry].Section == section
		inPath := slices.ContainsFunc(r.Path, func(s api.Step) bool { return s.Section == section })
		if ok && end[0] == section && !isApproach && !inPath {
			overlap = append(overlap, section)
		}
	}
	return overlap
}

// spoilt sets one thing of the configuration to another one, which may do no harm.
func spoilt(d *dice, c api.Config) api.Config {
	c = copied(c)
	var numbers []*int
	for i := range c.Sections {
		s := &c.Sections[i]
		numbers = append(numbers, &s.Kind, &s.Line)
	}
	for i := range c.Joints {
		j := &c.Joints[i]
		numbers = append(numbers, &j.A, &j.AEnd)
	}
	for range 4 { // so that the tracks, which have the most numbers, aren't the only ones that are spoilt
		for i := range c.Signals {
			numbers = append(numbers, &c.Signals[i].Section, &c.Signals[i].End)
		}
		for i := range c.Crossings {
			numbers = append(numbers, &c.Crossings[i])
		}
		for i := range c.Routes {
			numbers = append(numbers, routeNumbers(&c.Routes[i])...)
		}
		numbers = append(numbers, &c.Timing.Age, &c.Timing.Brake, &c.Timing.Hold, &c.Timing.Budget)
	}
	if len(c.Routes) > 0 && d.throw(2) == 0 {
		spoilRoute(d, &c.Routes[d.throw(len(c.Routes))])
		return c
	}
	*numbers[d.throw(len(numbers))] = d.number()
	return c
}

func routeNumbers(r *api.Route) []*int {
	numbers := []*int{&r.Entry, &r.Exit}
	for i := range r.Path {
		numbers = append(numbers, &r.Path[i].Section, &r.Path[i].In, &r.Path[i].Out)
	}
	for i := range r.Flank {
		numbers = append(numbers, &r.Flank[i].Section, &r.Flank[i].Pos)
	}
	for i := range r.Overlap {
		numbers = append(numbers, &r.Overlap[i])
	}
	return numbers
}

func spoilRoute(d *dice, r *api.Route) {
	switch d.throw(7) {
	case 0:
		r.Shunt = !r.Shunt
	case 1:
		r.Path = r.Path[:d.throw(len(r.Path)+1)]
	case 2:
		r.Path = append(r.Path, api.Step{Section: d.throw(16), In: d.throw(2), Out: d.throw(3)})
	case 3:
		r.Flank = r.Flank[:d.throw(len(r.Flank)+1)]
	case 4:
		r.Flank = append(r.Flank, api.Need{Section: d.throw(16), Pos: 1 + d.throw(2)})
	case 5:
		r.Overlap = r.Overlap[:d.throw(len(r.Overlap)+1)]
	case 6:
		r.Overlap = append(r.Overlap, d.throw(16))
	}
}
