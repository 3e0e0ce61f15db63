package topo_test

import (
	"math"
	"slices"
	"testing"

	"ballast/api"
	"ballast/topo"
)

// plan is a track with its joints.
type plan struct {
	sections []api.Section
	joints   []api.Joint
}

func (p plan) copied() plan { return plan{slices.Clone(p.sections), slices.Clone(p.joints)} }

// odd are numbers that are no kind, no section and no end, and some positions.
var odd = []int{math.MinInt, math.MinInt + 1, math.MinInt32, -256, -4, -3, -2, -1, 4, 5, 6, 7, 256, 1 << 32, math.MaxInt - 1, math.MaxInt}

// numbers are nought to three, and the odd ones.
func numbers() []int { return append([]int{0, 1, 2, 3}, odd...) }

// kinds has how many ends a section of each kind has.
var kinds = map[int]int{api.Plain: 2, api.Point: 3, api.Diamond: 4}

// free has the ways for which a position plays no part: a kind and an end, and the other end.
var free = map[[2]int]int{
	{api.Plain, 0}: 1, {api.Plain, 1}: 0,
	{api.Diamond, 0}: 1, {api.Diamond, 1}: 0, {api.Diamond, 2}: 3, {api.Diamond, 3}: 2,
}

// turned has the ways of a Point: an end and a position, and the other end.
var turned = map[[2]int]int{
	{0, api.Normal}: 1, {1, api.Normal}: 0,
	{0, api.Reverse}: 2, {2, api.Reverse}: 0,
}

// asked has each way's position: its kind and both its ends.
var asked = map[[3]int]int{
	{api.Plain, 0, 1}: api.Nowhere, {api.Plain, 1, 0}: api.Nowhere,
	{api.Point, 0, 1}: api.Normal, {api.Point, 1, 0}: api.Normal,
	{api.Point, 0, 2}: api.Reverse, {api.Point, 2, 0}: api.Reverse,
	{api.Diamond, 0, 1}: api.Nowhere, {api.Diamond, 1, 0}: api.Nowhere,
	{api.Diamond, 2, 3}: api.Nowhere, {api.Diamond, 3, 2}: api.Nowhere,
}

// fork is the track of the chapter's second example.
func fork() plan {
	return plan{
		[]api.Section{{Kind: api.Plain}, {Kind: api.Point}, {Kind: api.Plain}, {Kind: api.Plain}},
		[]api.Joint{{A: 0, AEnd: 1, B: 1, BEnd: 0}, {A: 1, AEnd: 1, B: 2, BEnd: 0}, {A: 1, AEnd: 2, B: 3, BEnd: 0}},
	}
}

// mixed is a track with all kinds, all controllers, all lines, each line's end 0 in a joint.
func mixed() plan {
	return plan{
		[]api.Section{{Line: 1}, {Kind: api.Point, OC: 1}, {Kind: api.Diamond, OC: 2}, {OC: 3, Line: 2}, {OC: 3, Line: 3}, {OC: 1}},
		[]api.Joint{{A: 0, AEnd: 0, B: 1, BEnd: 0}, {A: 2, AEnd: 0, B: 1, BEnd: 1}, {A: 1, AEnd: 2, B: 2, BEnd: 2}, {A: 3, AEnd: 0, B: 2, BEnd: 1}, {A: 2, AEnd: 3, B: 4, BEnd: 0}},
	}
}

// full is a track just at its limits: 16 sections, all Diamonds, and 24 joints.
func full() plan {
	p := plan{sections: make([]api.Section, 16)}
	for i := range p.sections {
		p.sections[i].Kind = api.Diamond
		p.joints = append(p.joints, api.Joint{A: i, AEnd: 1, B: (i + 1) % 16, BEnd: 0})
		if i%2 == 0 {
			p.joints = append(p.joints, api.Joint{A: i + 1, AEnd: 2, B: i, BEnd: 3})
		}
	}
	return p
}

// P5.1: how many ends there are.
func TestEnds(t *testing.T) {
	for _, kind := range numbers() {
		if n := topo.Ends(kind); n != kinds[kind] {
			t.Errorf("Ends(%d) = %d, want %d", kind, n, kinds[kind])
		}
	}
}

// P5.1, the chapter's first example.
func TestWayExample(t *testing.T) {
	for _, c := range []struct {
		kind, in, pos int
		out           int
		ok            bool
	}{
		{api.Point, 0, api.Reverse, 2, true},
		{api.Point, 1, api.Normal, 0, true},
		{api.Point, 1, api.Reverse, 0, false},
		{api.Point, 0, api.Nowhere, 0, false},
		{api.Diamond, 3, 7, 2, true},
		{api.Plain, 2, 0, 0, false},
	} {
		if out, ok := topo.Way(c.kind, c.in, c.pos); out != c.out || ok != c.ok {
			t.Errorf("Way(%d, %d, %d) = %d, %t", c.kind, c.in, c.pos, out, ok)
		}
	}
}

// P5.1: of each kind, end and position, and of those that are none, the way as the chapter lists it; beside false nought (R2).
func TestWay(t *testing.T) {
	for _, kind := range numbers() {
		for _, in := range numbers() {
			for _, pos := range numbers() {
				want, found := free[[2]int{kind, in}]
				if kind == api.Point {
					want, found = turned[[2]int{in, pos}]
				}
				if out, ok := topo.Way(kind, in, pos); out != want || ok != found {
					t.Errorf("Way(%d, %d, %d) = %d, %t; want %d, %t", kind, in, pos, out, ok, want, found)
				}
			}
		}
	}
}

// P5.1: in which position each way goes; no way from an end to itself, from leg to leg, from one track of a Diamond to the other.
func TestPos(t *testing.T) {
	for _, kind := range numbers() {
		for _, in := range numbers() {
			for _, out := range numbers() {
				want, found := asked[[3]int{kind, in, out}]
				if pos, ok := topo.Pos(kind, in, out); pos != want || ok != found {
					t.Errorf("Pos(%d, %d, %d) = %d, %t; want %d, %t", kind, in, out, pos, ok, want, found)
				}
			}
		}
	}
}

// P5.2: a way that goes one way round goes the other way round in the same position, and in no other.
func TestWaysGoBothWaysRound(t *testing.T) {
	for _, kind := range numbers() {
		for _, in := range numbers() {
			for _, pos := range numbers() {
				out, ok := topo.Way(kind, in, pos)
				if !ok {
					continue
				}
				if back, ok := topo.Way(kind, out, pos); !ok || back != in || back == out {
					t.Errorf("Way(%d, %d, %d) = %d, but back %d, %t", kind, in, pos, out, back, ok)
				}
				if out < 0 || out >= topo.Ends(kind) {
					t.Errorf("Way(%d, %d, %d) = %d", kind, in, pos, out)
				}
			}
		}
	}
}

// P5.2: Pos tells the position in which Way goes from one end to the other: that one alone of a Point, any one of the others; and there is no Pos where no position lets a train go.
func TestPosIsWaysPosition(t *testing.T) {
	for _, kind := range numbers() {
		for _, in := range numbers() {
			for _, out := range numbers() {
				asks, ok := topo.Pos(kind, in, out)
				if back, also := topo.Pos(kind, out, in); back != asks || also != ok {
					t.Errorf("Pos(%d, %d, %d) = %d, %t, but back %d, %t", kind, in, out, asks, ok, back, also)
				}
				for _, pos := range numbers() {
					end, goes := topo.Way(kind, in, pos)
					goes = goes && end == out
					if want := ok && (asks == api.Nowhere || asks == pos); goes != want {
						t.Errorf("Pos(%d, %d, %d) = %d, %t, but in %d it goes: %t", kind, in, out, asks, ok, pos, goes)
					}
				}
			}
		}
	}
}

// P5.1: what meets an end, whichever side of its joint it stands on.
func TestNext(t *testing.T) {
	for _, c := range []struct {
		section, end int
		next, other  int
		ok           bool
	}{
		{0, 1, 1, 0, true},
		{1, 0, 0, 1, true},
		{1, 1, 2, 0, true},
		{2, 0, 1, 1, true},
		{1, 2, 3, 0, true},
		{3, 0, 1, 2, true},
		{0, 0, 0, 0, false},
		{2, 1, 0, 0, false},
		{3, 1, 0, 0, false},
		{1, 3, 0, 0, false},
		{1, -1, 0, 0, false},
		{-1, 0, 0, 0, false},
		{4, 0, 0, 0, false},
		{math.MaxInt, math.MinInt, 0, 0, false},
	} {
		if next, other, ok := topo.Next(fork().joints, c.section, c.end); next != c.next || other != c.other || ok != c.ok {
			t.Errorf("Next(%d, %d) = %d, %d, %t", c.section, c.end, next, other, ok)
		}
	}
	for _, none := range [][]api.Joint{nil, {}} {
		if next, other, ok := topo.Next(none, 0, 0); next != 0 || other != 0 || ok {
			t.Errorf("Next of no joint = %d, %d, %t", next, other, ok)
		}
	}
}

// P5.1: of joints that are not right, too, the first one that has the end tells, whatever stands in it.
func TestNextOfFirst(t *testing.T) {
	joints := []api.Joint{{A: 5, AEnd: 1, B: 6, BEnd: 0}, {A: 7, AEnd: 2, B: 5, BEnd: 1}, {A: 6, AEnd: 0, B: 8, BEnd: 3}, {A: 9, AEnd: 9, B: 9, BEnd: 9}, {A: 4, AEnd: 0, B: 4, BEnd: 1}, {A: -1, AEnd: -2, B: math.MaxInt, BEnd: math.MinInt}}
	for _, c := range []struct{ section, end, next, other int }{
		{5, 1, 6, 0},
		{6, 0, 5, 1},
		{7, 2, 5, 1},
		{8, 3, 6, 0},
		{9, 9, 9, 9},
		{4, 0, 4, 1},
		{4, 1, 4, 0},
		{-1, -2, math.MaxInt, math.MinInt},
		{math.MaxInt, math.MinInt, -1, -2},
	} {
		if next, other, ok := topo.Next(joints, c.section, c.end); next != c.next || other != c.other || !ok {
			t.Errorf("Next(%d, %d) = %d, %d, %t", c.section, c.end, next, other, ok)
		}
	}
	slices.Reverse(joints)
	for _, c := range []struct{ section, end, next, other int }{{5, 1, 7, 2}, {6, 0, 8, 3}} {
		if next, other, ok := topo.Next(joints, c.section, c.end); next != c.next || other != c.other || !ok {
			t.Errorf("the other way about: Next(%d, %d) = %d, %d, %t", c.section, c.end, next, other, ok)
		}
	}
	// An end is told by both its numbers.
	for _, c := range [][2]int{{5, 0}, {6, 1}, {1, 5}, {2, 7}, {7, 1}, {9, 8}, {8, 9}} {
		if next, other, ok := topo.Next(joints, c[0], c[1]); next != 0 || other != 0 || ok {
			t.Errorf("Next(%d, %d) = %d, %d, %t", c[0], c[1], next, other, ok)
		}
	}
}

// P5.1: plans that are right, at the limits too.
func TestCheckRight(t *testing.T) {
	lone := func(kind, oc, line int) plan {
		return plan{sections: []api.Section{{Kind: kind, OC: oc, Line: line}}}
	}
	trackless := plan{sections: make([]api.Section, 16)}
	ring := plan{make([]api.Section, 3), []api.Joint{{A: 0, AEnd: 1, B: 1, BEnd: 0}, {A: 1, AEnd: 1, B: 2, BEnd: 0}, {A: 2, AEnd: 1, B: 0, BEnd: 0}}}
	twice := plan{make([]api.Section, 2), []api.Joint{{A: 0, AEnd: 1, B: 1, BEnd: 0}, {A: 0, AEnd: 0, B: 1, BEnd: 1}}}
	for name, p := range map[string]plan{
		"fork": fork(), "mixed": mixed(), "full": full(), "ring": ring, "two joints of two sections": twice,
		"no joints": trackless, "a Plain": lone(api.Plain, 0, 0), "a Point": lone(api.Point, 3, 0),
		"a Diamond": lone(api.Diamond, 1, 0), "line 1": lone(api.Plain, 2, 1), "line 3": lone(api.Plain, 3, 3),
	} {
		if e := topo.Check(p.sections, p.joints); e != api.OK {
			t.Errorf("%s: %d", name, e)
		}
	}
	if n := len(full().joints); n != api.MaxJoints {
		t.Errorf("the full track has %d joints", n)
	}
}

// P5.1: a plan that is wrong in one thing only, for each thing of which the chapter tells.
func TestCheckWrong(t *testing.T) {
	for name, spoil := range map[string]func(*plan){
		"no sections":              func(p *plan) { p.sections, p.joints = nil, nil },
		"joints without sections":  func(p *plan) { p.sections = nil },
		"an odd kind":              func(p *plan) { p.sections[5].Kind = 3 },
		"a kind below nought":      func(p *plan) { p.sections[5].Kind = -1 },
		"a far kind":               func(p *plan) { p.sections[5].Kind = math.MaxInt },
		"controller 4":             func(p *plan) { p.sections[5].OC = 4 },
		"controller -1":            func(p *plan) { p.sections[5].OC = -1 },
		"a far controller":         func(p *plan) { p.sections[0].OC = math.MinInt },
		"line 4":                   func(p *plan) { p.sections[4].Line = 4 },
		"line -1":                  func(p *plan) { p.sections[4].Line = -1 },
		"a far line":               func(p *plan) { p.sections[4].Line = math.MaxInt },
		"a line twice":             func(p *plan) { p.sections[5].Line = 1 },
		"the last line twice":      func(p *plan) { p.sections[3].Line = 3 },
		"a line that is a Point":   func(p *plan) { p.sections[4].Kind = api.Point },
		"a line that is a Diamond": func(p *plan) { p.sections[4].Kind = api.Diamond },
		"a Point with a line":      func(p *plan) { p.sections[4].Line, p.sections[1].Line = 0, 3 },
		"a Diamond with a line":    func(p *plan) { p.sections[4].Line, p.sections[2].Line = 0, 3 },
		"a line's end 1 as A":      func(p *plan) { p.joints = append(p.joints, api.Joint{A: 3, AEnd: 1, B: 5, BEnd: 0}) },
		"a line's end 1 as B":      func(p *plan) { p.joints = append(p.joints, api.Joint{A: 5, AEnd: 1, B: 0, BEnd: 1}) },
		"two lines' ends 1":        func(p *plan) { p.joints = append(p.joints, api.Joint{A: 3, AEnd: 1, B: 4, BEnd: 1}) },
		"a line the wrong way":     func(p *plan) { p.joints[4].BEnd = 1 },
		"A before the first":       func(p *plan) { p.joints[0].A = -1 },
		"A behind the last":        func(p *plan) { p.joints[0].A = 6 },
		"B before the first":       func(p *plan) { p.joints[4].B = -1 },
		"B behind the last":        func(p *plan) { p.joints[4].B = 6 },
		"far sections":             func(p *plan) { p.joints[0].A, p.joints[0].B = math.MinInt, math.MaxInt },
		"an end A below nought":    func(p *plan) { p.joints[0].AEnd = -1 },
		"an end B below nought":    func(p *plan) { p.joints[0].BEnd = -1 },
		"an end 2 of a Plain":      func(p *plan) { p.joints[0].AEnd = 2 },
		"an end 3 of a Point":      func(p *plan) { p.joints[0].BEnd = 3 },
		"an end 4 of a Diamond":    func(p *plan) { p.joints[1].AEnd = 4 },
		"far ends":                 func(p *plan) { p.joints[4].AEnd, p.joints[4].BEnd = math.MaxInt, math.MinInt },
		"a section with itself":    func(p *plan) { p.joints = append(p.joints, api.Joint{A: 5, AEnd: 0, B: 5, BEnd: 1}) },
		"an end with itself":       func(p *plan) { p.joints = append(p.joints, api.Joint{A: 5, AEnd: 0, B: 5, BEnd: 0}) },
		"an end twice, A and A":    func(p *plan) { p.joints = append(p.joints, api.Joint{A: 0, AEnd: 0, B: 5, BEnd: 0}) },
		"an end twice, A and B":    func(p *plan) { p.joints = append(p.joints, api.Joint{A: 5, AEnd: 0, B: 0, BEnd: 0}) },
		"an end twice, B and A":    func(p *plan) { p.joints = append(p.joints, api.Joint{A: 1, AEnd: 0, B: 5, BEnd: 0}) },
		"an end twice, B and B":    func(p *plan) { p.joints = append(p.joints, api.Joint{A: 5, AEnd: 0, B: 1, BEnd: 0}) },
		"a joint twice":            func(p *plan) { p.joints = append(p.joints, p.joints[0]) },
		"a joint the other way":    func(p *plan) { p.joints = append(p.joints, api.Joint{A: 1, AEnd: 0, B: 0, BEnd: 0}) },
	} {
		p := mixed()
		if e := topo.Check(p.sections, p.joints); e != api.OK {
			t.Fatalf("the mixed track: %d", e)
		}
		spoil(&p)
		if e := topo.Check(p.sections, p.joints); e != api.ErrTopo {
			t.Errorf("%s: %d", name, e)
		}
	}
}

// P5.1: plans beyond the limits, right but for their size.
func TestCheckSize(t *testing.T) {
	p := plan{sections: make([]api.Section, 17)}
	if e := topo.Check(p.sections, nil); e != api.ErrTopo {
		t.Errorf("17 sections: %d", e)
	}
	p = full()
	p.joints = append(p.joints, api.Joint{A: 0, AEnd: 2, B: 1, BEnd: 3})
	if e := topo.Check(p.sections, p.joints); e != api.ErrTopo {
		t.Errorf("25 joints: %d", e)
	}
	p.joints = slices.Delete(p.joints, 7, 8)
	if e := topo.Check(p.sections, p.joints); e != api.OK {
		t.Errorf("24 joints, the 25th one for another: %d", e)
	}
	if e := topo.Check(make([]api.Section, 1<<20), make([]api.Joint, 1<<20)); e != api.ErrTopo {
		t.Errorf("a great plan: %d", e)
	}
}

// P5.1: of two sections of whatever kinds, each joint that could be written.
func TestCheckEachJoint(t *testing.T) {
	for a := range 3 {
		for b := range 3 {
			p := plan{[]api.Section{{Kind: a}, {Kind: b}}, make([]api.Joint, 1)}
			ends := []int{kinds[a], kinds[b]}
			for n := range 4 * 4 * 6 * 6 {
				j := api.Joint{A: n%4 - 1, B: n/4%4 - 1, AEnd: n/16%6 - 1, BEnd: n/96 - 1}
				right := (j.A == 0 && j.B == 1 || j.A == 1 && j.B == 0) && j.AEnd >= 0 && j.BEnd >= 0 && j.AEnd < ends[j.A] && j.BEnd < ends[j.B]
				p.joints[0] = j
				if e := topo.Check(p.sections, p.joints); (e == api.OK) != right || !right && e != api.ErrTopo {
					t.Fatalf("kinds %d and %d, %v: %d", a, b, j, e)
				}
			}
		}
	}
}

// dice throws the same row of numbers each time.
type dice uint64

func (d *dice) throw(sides int) int {
	*d = *d*6364136223846793005 + 1442695040888963407
	return int(uint64(*d) >> 33 % uint64(sides))
}

// thrown is a plan that is mostly right: all ends joined by pairs as they come, as far as the limits and the lines let them; one thing of it may be spoilt.
func thrown(d *dice) plan {
	p := plan{sections: make([]api.Section, 1+d.throw(16))}
	line := 0
	ends := [][2]int{}
	for i := range p.sections {
		s := &p.sections[i]
		s.Kind, s.OC = d.throw(3), d.throw(4)
		last := kinds[s.Kind]
		if s.Kind == api.Plain && line < 3 && d.throw(3) == 0 {
			line++
			s.Line, last = line, 1
		}
		for end := range last {
			ends = append(ends, [2]int{i, end})
		}
	}
	for i := range ends {
		k := i + d.throw(len(ends)-i)
		ends[i], ends[k] = ends[k], ends[i]
	}
	for ; len(ends) > 1 && len(p.joints) < 24; ends = ends[2:] {
		if a, b := ends[0], ends[1]; a[0] != b[0] && d.throw(8) > 0 {
			p.joints = append(p.joints, api.Joint{A: a[0], AEnd: a[1], B: b[0], BEnd: b[1]})
		}
	}
	return p
}

// spoilt sets a number of the plan to another one, which may do no harm.
func spoilt(d *dice, p plan) plan {
	p = p.copied()
	s := &p.sections[d.throw(len(p.sections))]
	j := &api.Joint{}
	if len(p.joints) > 0 {
		j = &p.joints[d.throw(len(p.joints))]
	}
	n := []*int{&s.Kind, &s.OC, &s.Line, &j.A, &j.B, &j.AEnd, &j.BEnd}[d.throw(7)]
	*n = d.throw(7) - 1
	if d.throw(16) == 0 {
		*n = odd[d.throw(len(odd))]
	}
	return p
}

// right tells whether the plan is right, by counting: the chapter's rule said another way.
func right(p plan) bool {
	if len(p.sections) == 0 || len(p.sections) > 16 || len(p.joints) > 24 {
		return false
	}
	ends, lines := map[[2]int]int{}, map[int]int{}
	for i, s := range p.sections {
		if s.Kind < 0 || s.Kind > 2 || s.OC < 0 || s.OC > 3 || s.Line < 0 || s.Line > 3 || s.Line > 0 && s.Kind != api.Plain {
			return false
		}
		lines[s.Line]++
		for end := range kinds[s.Kind] {
			ends[[2]int{i, end}] = 1
		}
		if s.Line > 0 {
			delete(ends, [2]int{i, 1})
		}
	}
	for _, j := range p.joints {
		a, b := [2]int{j.A, j.AEnd}, [2]int{j.B, j.BEnd}
		if ends[a] == 0 || ends[b] == 0 || j.A == j.B {
			return false
		}
		delete(ends, a)
		delete(ends, b)
	}
	return lines[1] < 2 && lines[2] < 2 && lines[3] < 2
}

// P5.1: plans that are thrown together, with nothing, one thing or some things spoilt.
func TestCheckThrown(t *testing.T) {
	d, count := dice(5), map[bool]int{}
	for range 20000 {
		p := thrown(&d)
		if !right(p) {
			t.Fatalf("thrown wrong: %v", p)
		}
		for range 4 {
			want := api.OK
			if !right(p) {
				want = api.ErrTopo
			}
			if e := topo.Check(p.sections, p.joints); e != want {
				t.Fatalf("%v: %d, want %d", p, e, want)
			}
			count[want == api.OK]++
			p = spoilt(&d, p)
		}
	}
	if count[true] < 20000 || count[false] < 20000 {
		t.Errorf("%v", count)
	}
}

// P5.3: on a right plan what an end meets meets it, it is an end of another section, and nothing else meets the same.
func TestNextGoesBothWaysRound(t *testing.T) {
	d := dice(53)
	plans := []plan{fork(), mixed(), full()}
	for range 2000 {
		plans = append(plans, thrown(&d))
	}
	for _, p := range plans {
		if e := topo.Check(p.sections, p.joints); e != api.OK {
			t.Fatalf("%v: %d", p, e)
		}
		met := 0
		for i := -1; i <= len(p.sections); i++ {
			for end := -1; end <= 4; end++ {
				next, other, ok := topo.Next(p.joints, i, end)
				if !ok {
					continue
				}
				met++
				if next == i || next < 0 || next >= len(p.sections) || other < 0 || other >= topo.Ends(p.sections[next].Kind) {
					t.Fatalf("%v: from %d.%d to %d.%d", p, i, end, next, other)
				}
				if back, first, ok := topo.Next(p.joints, next, other); back != i || first != end || !ok {
					t.Fatalf("%v: from %d.%d to %d.%d, and back to %d.%d, %t", p, i, end, next, other, back, first, ok)
				}
			}
		}
		if met != 2*len(p.joints) {
			t.Fatalf("%v: %d ends are met", p, met)
		}
	}
}

// P5.1, the chapter's second example.
func TestFollowExample(t *testing.T) {
	p := fork()
	if steps := topo.Follow(p.sections, p.joints, 0, 0, 0, api.Reverse); !slices.Equal(steps, []api.Step{{Section: 0, In: 0, Out: 1}, {Section: 1, In: 0, Out: 2}, {Section: 3, In: 0, Out: 1}}) {
		t.Errorf("Reverse: %v", steps)
	}
	if steps := topo.Follow(p.sections, p.joints, 0, 0, 0, api.Nowhere); !slices.Equal(steps, []api.Step{{Section: 0, In: 0, Out: 1}, {Section: 1, In: 0, Out: -1}}) {
		t.Errorf("Nowhere: %v", steps)
	}
}

// following is a train's way, and the steps that it should have.
type following struct {
	section, in int
	pos         []int
	want        []api.Step
}

func follows(t *testing.T, p plan, list ...following) {
	t.Helper()
	for _, c := range list {
		if steps := topo.Follow(p.sections, p.joints, c.section, c.in, c.pos...); !slices.Equal(steps, c.want) {
			t.Errorf("Follow(%d, %d, %v) = %v, want %v", c.section, c.in, c.pos, steps, c.want)
		}
	}
}

// P5.1: to where the track ends, to a Point that stands otherwise or is told nowhere, with positions fewer than sections, and more.
func TestFollow(t *testing.T) {
	normal := []api.Step{{Section: 0, In: 0, Out: 1}, {Section: 1, In: 0, Out: 1}, {Section: 2, In: 0, Out: 1}}
	stopped := []api.Step{{Section: 0, In: 0, Out: 1}, {Section: 1, In: 0, Out: -1}}
	follows(t, fork(),
		following{0, 0, []int{0, 1}, normal},
		following{0, 0, []int{2, 1, 2, 2, 7, 8, 9}, normal},
		following{0, 0, []int{-5, 1, math.MinInt, 3}, normal},
		following{0, 0, nil, stopped},
		following{0, 0, []int{}, stopped},
		following{0, 0, []int{1}, stopped},
		following{0, 0, []int{1, 3}, stopped},
		following{0, 0, []int{1, -1}, stopped},
		following{0, 0, []int{1, 0, 1, 1}, stopped},
		following{0, 1, nil, []api.Step{{Section: 0, In: 1, Out: 0}}},
		following{1, 0, []int{0, 2}, []api.Step{{Section: 1, In: 0, Out: 2}, {Section: 3, In: 0, Out: 1}}},
		following{1, 0, []int{2}, []api.Step{{Section: 1, In: 0, Out: -1}}},
		following{1, 1, []int{0, 1}, []api.Step{{Section: 1, In: 1, Out: 0}, {Section: 0, In: 1, Out: 0}}},
		following{1, 1, []int{0, 2}, []api.Step{{Section: 1, In: 1, Out: -1}}},
		following{1, 2, []int{0, 2}, []api.Step{{Section: 1, In: 2, Out: 0}, {Section: 0, In: 1, Out: 0}}},
		following{1, 2, []int{0, 1}, []api.Step{{Section: 1, In: 2, Out: -1}}},
		following{2, 1, []int{0, 1}, []api.Step{{Section: 2, In: 1, Out: 0}, {Section: 1, In: 1, Out: 0}, {Section: 0, In: 1, Out: 0}}},
		following{2, 1, []int{0, 2}, []api.Step{{Section: 2, In: 1, Out: 0}, {Section: 1, In: 1, Out: -1}}},
		following{2, 1, nil, []api.Step{{Section: 2, In: 1, Out: 0}, {Section: 1, In: 1, Out: -1}}},
		following{3, 1, []int{0, 2}, []api.Step{{Section: 3, In: 1, Out: 0}, {Section: 1, In: 2, Out: 0}, {Section: 0, In: 1, Out: 0}}},
		following{3, 0, []int{0, 2}, []api.Step{{Section: 3, In: 0, Out: 1}}},
	)
	follows(t, mixed(),
		following{0, 1, []int{0, 1}, []api.Step{{Section: 0, In: 1, Out: 0}, {Section: 1, In: 0, Out: 1}, {Section: 2, In: 0, Out: 1}, {Section: 3, In: 0, Out: 1}}},
		following{0, 1, []int{0, 2}, []api.Step{{Section: 0, In: 1, Out: 0}, {Section: 1, In: 0, Out: 2}, {Section: 2, In: 2, Out: 3}, {Section: 4, In: 0, Out: 1}}},
		following{4, 1, []int{0, 2}, []api.Step{{Section: 4, In: 1, Out: 0}, {Section: 2, In: 3, Out: 2}, {Section: 1, In: 2, Out: 0}, {Section: 0, In: 0, Out: 1}}},
		following{5, 1, nil, []api.Step{{Section: 5, In: 1, Out: 0}}},
	)
}

// P5.1: no way from where no section is, or by what is no end of it.
func TestFollowFromNowhere(t *testing.T) {
	p := mixed()
	for section := -1; section <= len(p.sections); section++ {
		for _, in := range numbers() {
			inside := section >= 0 && section < len(p.sections) && in >= 0 && in < kinds[p.sections[section].Kind]
			if steps := topo.Follow(p.sections, p.joints, section, in, 1, 1, 1); (len(steps) > 0) != inside {
				t.Errorf("Follow(%d, %d) = %v", section, in, steps)
			}
		}
	}
	for _, section := range []int{math.MinInt, -2, 6, 7, math.MaxInt} {
		follows(t, p, following{section, 0, []int{1, 1, 1}, nil})
	}
	follows(t, plan{}, following{0, 0, nil, nil})
	follows(t, plan{joints: fork().joints}, following{0, 0, nil, nil})
	follows(t, plan{sections: []api.Section{{Kind: 3}, {Kind: -1}}}, following{0, 0, nil, nil}, following{1, 0, nil, nil})
}

// P5.1: a section that comes a second time isn't told again: on a ring, back by the other leg of a Point, by the other track of a Diamond.
func TestFollowRound(t *testing.T) {
	ring := plan{make([]api.Section, 3), []api.Joint{{A: 0, AEnd: 1, B: 1, BEnd: 0}, {A: 1, AEnd: 1, B: 2, BEnd: 0}, {A: 2, AEnd: 1, B: 0, BEnd: 0}}}
	follows(t, ring,
		following{0, 0, nil, []api.Step{{Section: 0, In: 0, Out: 1}, {Section: 1, In: 0, Out: 1}, {Section: 2, In: 0, Out: 1}}},
		following{1, 1, nil, []api.Step{{Section: 1, In: 1, Out: 0}, {Section: 0, In: 1, Out: 0}, {Section: 2, In: 1, Out: 0}}},
	)
	loop := plan{
		[]api.Section{{}, {Kind: api.Point}, {}},
		[]api.Joint{{A: 0, AEnd: 1, B: 1, BEnd: 0}, {A: 1, AEnd: 1, B: 2, BEnd: 0}, {A: 2, AEnd: 1, B: 1, BEnd: 2}},
	}
	follows(t, loop,
		following{0, 0, []int{0, 1}, []api.Step{{Section: 0, In: 0, Out: 1}, {Section: 1, In: 0, Out: 1}, {Section: 2, In: 0, Out: 1}}},
		following{0, 0, []int{0, 2}, []api.Step{{Section: 0, In: 0, Out: 1}, {Section: 1, In: 0, Out: 2}, {Section: 2, In: 1, Out: 0}}},
		following{2, 0, []int{0, 2}, []api.Step{{Section: 2, In: 0, Out: 1}, {Section: 1, In: 2, Out: 0}, {Section: 0, In: 1, Out: 0}}},
		following{2, 0, []int{0, 1}, []api.Step{{Section: 2, In: 0, Out: 1}, {Section: 1, In: 2, Out: -1}}},
	)
	eight := plan{
		[]api.Section{{Kind: api.Diamond}, {}},
		[]api.Joint{{A: 0, AEnd: 1, B: 1, BEnd: 0}, {A: 1, AEnd: 1, B: 0, BEnd: 2}},
	}
	follows(t, eight,
		following{0, 0, nil, []api.Step{{Section: 0, In: 0, Out: 1}, {Section: 1, In: 0, Out: 1}}},
		following{0, 3, nil, []api.Step{{Section: 0, In: 3, Out: 2}, {Section: 1, In: 1, Out: 0}}},
		following{1, 1, nil, []api.Step{{Section: 1, In: 1, Out: 0}, {Section: 0, In: 1, Out: 0}}},
	)
	for _, p := range []plan{ring, loop, eight} {
		if e := topo.Check(p.sections, p.joints); e != api.OK {
			t.Errorf("%v: %d", p, e)
		}
	}
}

// P5.1: on plans that are not right the words hold, too: an end that the section hasn't, a kind that is none, has no way; a section that there is not is no next one.
func TestFollowWrongPlans(t *testing.T) {
	to := func(joints ...api.Joint) plan { return plan{[]api.Section{{}, {}, {Kind: 9}}, joints} }
	first := api.Step{Section: 0, In: 0, Out: 1}
	start := func(want ...api.Step) following { return following{0, 0, nil, want} }
	follows(t, to(api.Joint{A: 0, AEnd: 1, B: 1, BEnd: 7}), start(first, api.Step{Section: 1, In: 7, Out: -1}))
	follows(t, to(api.Joint{A: 0, AEnd: 1, B: 1, BEnd: -1}), start(first, api.Step{Section: 1, In: -1, Out: -1}))
	follows(t, to(api.Joint{A: 0, AEnd: 1, B: 2, BEnd: 0}), start(first, api.Step{Section: 2, In: 0, Out: -1}))
	follows(t, to(api.Joint{A: 0, AEnd: 1, B: 3, BEnd: 0}), start(first))
	follows(t, to(api.Joint{A: 0, AEnd: 1, B: -1, BEnd: 0}), start(first))
	follows(t, to(api.Joint{A: math.MinInt, AEnd: 0, B: 0, BEnd: 1}), start(first))
	follows(t, to(api.Joint{A: 0, AEnd: 1, B: 0, BEnd: 1}), start(first))
	follows(t, to(api.Joint{A: 0, AEnd: 1, B: 0, BEnd: 0}), start(first))
	follows(t, to(api.Joint{A: 0, AEnd: 1, B: 1, BEnd: 1}, api.Joint{A: 1, AEnd: 1, B: 0, BEnd: 1}), start(first, api.Step{Section: 1, In: 1, Out: 0}))
}

// P5.1: a way has no greater length than there are sections, but that one.
func TestFollowFar(t *testing.T) {
	const size = 3000
	p := plan{sections: make([]api.Section, size)}
	for i := range size - 1 {
		p.joints = append(p.joints, api.Joint{A: i + 1, AEnd: 0, B: i, BEnd: 1})
	}
	steps := topo.Follow(p.sections, p.joints, 0, 0)
	if len(steps) != size {
		t.Fatalf("%d steps", len(steps))
	}
	for i, s := range steps {
		if s != (api.Step{Section: i, In: 0, Out: 1}) {
			t.Fatalf("the step %d: %v", i, s)
		}
	}
}

// hangs tells whether the steps are those of a train that comes in so: where they begin, that each leads to the next one, that none comes twice, and that they end where the chapter lets them end.
func hangs(p plan, section, in int, pos []int, steps []api.Step) bool {
	inside := section >= 0 && section < len(p.sections)
	if !inside || in < 0 || in >= topo.Ends(p.sections[section].Kind) {
		return len(steps) == 0
	}
	seen := map[int]int{}
	for i, s := range steps {
		if s.Section != section || s.In != in || seen[section] > 0 {
			return false
		}
		seen[section]++
		where := api.Nowhere
		if section < len(pos) {
			where = pos[section]
		}
		out, ok := topo.Way(p.sections[section].Kind, in, where)
		if !ok {
			return s.Out == -1 && i == len(steps)-1
		}
		if s.Out != out {
			return false
		}
		section, in, ok = topo.Next(p.joints, section, out)
		if !ok {
			return i == len(steps)-1
		}
	}
	return len(steps) > 0 && (section < 0 || section >= len(p.sections) || seen[section] > 0)
}

// P5.4: on plans that are thrown together, right ones and spoilt ones, from each end, in all sorts of positions, the steps hang together.
func TestStepsHangTogether(t *testing.T) {
	d, longest := dice(54), 0
	for range 3000 {
		p := thrown(&d)
		for range 3 {
			pos := make([]int, d.throw(len(p.sections)+3))
			for i := range pos {
				pos[i] = d.throw(4)
				if d.throw(4) > 0 {
					pos[i] = 1 + d.throw(2)
				}
			}
			for section := -1; section <= len(p.sections); section++ {
				for in := -1; in <= 4; in++ {
					steps := topo.Follow(p.sections, p.joints, section, in, pos...)
					if !hangs(p, section, in, pos, steps) {
						t.Fatalf("%v: Follow(%d, %d, %v) = %v", p, section, in, pos, steps)
					}
					longest = max(longest, len(steps))
				}
			}
			p = spoilt(&d, p)
		}
	}
	if longest < 12 {
		t.Errorf("the longest way has %d steps", longest)
	}
}

// P5.4: on a right plan a way out of whose last section there is a way goes back the same way.
func TestFollowBack(t *testing.T) {
	d, count := dice(41), 0
	for range 3000 {
		p := thrown(&d)
		pos := make([]int, len(p.sections))
		for i := range pos {
			pos[i] = 1 + d.throw(2)
		}
		section := d.throw(len(p.sections))
		in := d.throw(kinds[p.sections[section].Kind])
		steps := topo.Follow(p.sections, p.joints, section, in, pos...)
		last := steps[len(steps)-1]
		if last.Out == -1 {
			continue
		}
		back := topo.Follow(p.sections, p.joints, last.Section, last.Out, pos...)
		if len(back) < len(steps) {
			t.Fatalf("%v: %v, and back %v", p, steps, back)
		}
		count++
		for i, s := range steps {
			if back[len(steps)-1-i] != (api.Step{Section: s.Section, In: s.Out, Out: s.In}) {
				t.Fatalf("%v: %v, and back %v", p, steps, back)
			}
		}
	}
	if count < 1000 {
		t.Errorf("%d ways back", count)
	}
}

// R4, R5: what is handed in stays as it is, its spare memory too; the same call answers the same, in new memory.
func TestNothingIsChanged(t *testing.T) {
	p := fork()
	sections, joints := append(p.sections, api.Section{Kind: 7, OC: 8, Line: 9}), append(p.joints, api.Joint{A: 6, AEnd: 7, B: 8, BEnd: 9})
	pos := []int{0, 2, 1, 1, 5}
	before := plan{slices.Clone(sections), slices.Clone(joints)}
	first := topo.Follow(sections[:4], joints[:3], 0, 0, pos[:2]...)
	again := topo.Follow(sections[:4], joints[:3], 0, 0, pos[:2]...)
	if !slices.Equal(first, again) || len(first) != 3 {
		t.Fatalf("%v, then %v", first, again)
	}
	clear(first)
	if again[0] != (api.Step{Section: 0, In: 0, Out: 1}) {
		t.Errorf("one answer changes the other: %v", again)
	}
	topo.Check(sections[:4], joints[:3])
	topo.Next(joints[:3], 2, 1)
	if !slices.Equal(sections, before.sections) || !slices.Equal(joints, before.joints) || !slices.Equal(pos, []int{0, 2, 1, 1, 5}) {
		t.Errorf("changed: %v, %v, %v", sections, joints, pos)
	}
}

// R3: a list that is nil, and one without elements.
func TestNoElements(t *testing.T) {
	if a, b := topo.Check(nil, nil), topo.Check([]api.Section{}, []api.Joint{}); a != api.ErrTopo || b != api.ErrTopo {
		t.Errorf("no sections: %d, %d", a, b)
	}
	lone := []api.Section{{Kind: api.Diamond}}
	if a, b := topo.Check(lone, nil), topo.Check(lone, []api.Joint{}); a != api.OK || b != api.OK {
		t.Errorf("no joints: %d, %d", a, b)
	}
	want := []api.Step{{Section: 0, In: 2, Out: 3}}
	if a, b := topo.Follow(lone, nil, 0, 2), topo.Follow(lone, []api.Joint{}, 0, 2, []int{}...); !slices.Equal(a, want) || !slices.Equal(b, want) {
		t.Errorf("%v, %v", a, b)
	}
}
