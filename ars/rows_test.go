package ars_test

import (
	"fmt"
	"math"
	"slices"
	"testing"

	"ballast/api"
	"ballast/ars"
	"ballast/kernel"
	"ballast/locks"
)

// workedDue says another way which entries are due, of a table, a state and a view that are right: the earliest one that is left, again and again.
func workedDue(c api.Config, k api.Core, v api.View, now int, done []bool, table []api.Entry) []int {
	taken := make([]bool, len(table))
	for i := range taken {
		taken[i] = i < len(done) && done[i]
	}
	var list []int
	for {
		first := -1
		for i, entry := range table {
			look := v.Occ[c.Signals[c.Routes[entry.Route].Entry].Section]
			due := !taken[i] && now >= entry.Time && k.Routes[entry.Route].State == 0 && look.Valid && look.Value == 1
			if due && (first < 0 || entry.Time < table[first].Time) {
				first = i
			}
		}
		if first < 0 {
			return list
		}
		taken[first] = true
		list = append(list, first)
	}
}

// workedBerths says another way where the numbers stand, of states that fit: train by train, each at its place.
func workedBerths(c api.Config, was, is api.Core, berths []int) []int {
	type train struct{ number, at int }
	var trains []train
	for at, number := range berths {
		if number != 0 && at < len(c.Signals) {
			trains = append(trains, train{number, at})
		}
	}
	for r, route := range c.Routes {
		ahead, behind := was.Routes[r].State, is.Routes[r].State
		n := slices.IndexFunc(trains, func(x train) bool { return x.at == route.Entry })
		if n < 0 || behind != 4 || ahead != 2 && ahead != 3 {
			continue
		}
		trains[n].at = -2
		trains = slices.DeleteFunc(trains, func(x train) bool { return x.at == route.Exit })
		trains[slices.IndexFunc(trains, func(x train) bool { return x.at == -2 })].at = route.Exit
	}
	list := make([]int, len(c.Signals))
	for _, x := range trains {
		if x.at >= 0 {
			list[x.at] = x.number
		}
	}
	return list
}

// routes throws States of all routes, most of them from the list.
func (d *dice) routes(c api.Config, states ...int) api.Core {
	k := empty(c)
	for r := range k.Routes {
		k.Routes[r].State = d.some(append(states, d.throw(6))...)
	}
	for i := range k.Own {
		k.Own[i] = d.throw(len(c.Routes)+3) - 2
	}
	return k
}

// looks throws what is seen of the sections.
func (d *dice) looks(c api.Config) api.View {
	v := worst(c)
	for i := range v.Occ {
		v.Occ[i] = api.Look{Value: d.some(1, 1, 1, 0, 2, -1), Stamp: d.throw(20) - 1, Valid: !d.once(6)}
	}
	return v
}

// table throws a timetable whose Times lie about now; of a station without routes one without entries.
func (d *dice) table(c api.Config, now int) []api.Entry {
	if len(c.Routes) == 0 {
		return nil
	}
	var list []api.Entry
	for range d.throw(api.MaxEntries + 1) {
		time := min(max(now+d.throw(6)-4, 0), api.MaxTime)
		list = append(list, api.Entry{Time: time, Route: d.throw(len(c.Routes)), Train: 1 + d.throw(9999)})
	}
	return list
}

// P16.1, P16.2, P16.3: timetables, states and views thrown together, against the second working-out; what stands at two berths did so ahead.
func TestThrown(t *testing.T) {
	found := map[string]int{}
	for _, text := range stations() {
		c := station(t, text)
		throws := dice(16)
		for range 6000 {
			k, v, now := throws.routes(c, 0, 0, 0), throws.looks(c), throws.some(0, 1, 500, api.MaxTime)
			table, done := throws.table(c, now), flags(throws.throw(1<<16)&throws.throw(1<<16), throws.throw(20))
			checks(t, "thrown", c, api.OK, table...)
			want := workedDue(c, k, v, now, done, table)
			dues(t, fmt.Sprint("thrown: ", table, " at ", now), c, k, v, now, done, table, want...)
			found[fmt.Sprint("due ", min(len(want), 3))]++

			was, is := throws.routes(c, 2, 2, 3), throws.routes(c, 4, 4)
			berths := make([]int, throws.throw(2*len(c.Signals)+1))
			for i := range berths {
				berths[i] = throws.some(0, 1+throws.throw(30))
			}
			behind := workedBerths(c, was, is, berths)
			stand(t, "thrown", c, was, is, berths, behind...)
			found["comes twice"] += moreOften(t, berths, behind)
			found["moved"] += len(behind) - count(behind, berths)
		}
		if t.Failed() {
			t.Fatal("station:\n", text)
		}
	}
	for _, name := range []string{"due 0", "due 1", "due 2", "due 3", "comes twice", "moved"} {
		if found[name] < 500 {
			t.Errorf("%s came only %d times: %v", name, found[name], found)
		}
	}
}

// count is how many berths have behind what they had ahead.
func count(behind, ahead []int) int {
	n := 0
	for i, number := range behind {
		if i < len(ahead) && ahead[i] == number {
			n++
		}
	}
	return n
}

// moreOften holds that no train's number stands anywhere more often than ahead; it answers how many stand at two berths or more. (P16.3)
func moreOften(t *testing.T, ahead, behind []int) int {
	t.Helper()
	often := map[int]int{}
	for _, number := range ahead {
		often[number]++
	}
	twice := 0
	for _, number := range behind {
		if number == 0 {
			continue
		}
		if often[number]--; often[number] < 0 {
			t.Errorf("the number %d stands more often: %v, ahead %v", number, behind, ahead)
		} else if often[number] > 0 {
			twice++
		}
	}
	return twice
}

// world is a station at work by a timetable, as a machine does it: what is due is asked for, cycle by cycle; trains come and go.
type world struct {
	dice
	api.Core
	c      api.Config
	now    int
	table  []api.Entry
	done   []bool
	trains []int // by sections: up to which cycle one is in it
	berths []int
	last   int // the number of the train that came last
	came   map[string]int
}

func newWorld(t *testing.T, seed int, text string, came map[string]int) *world {
	t.Helper()
	c := station(t, text)
	w := &world{dice: dice(seed), Core: empty(c), c: c, trains: make([]int, len(c.Sections)), berths: make([]int, len(c.Signals)), came: came}
	for range api.MaxEntries {
		w.table = append(w.table, api.Entry{Time: w.throw(300), Route: w.throw(len(c.Routes)), Train: 1 + w.throw(9999)})
	}
	w.done = make([]bool, len(w.table))
	return w
}

// sees is what controllers tell: where trains are, and that points and crossings stand as they are commanded; now and then nothing.
func (w *world) sees() api.View {
	v := full(w.c)
	for i := range v.Occ {
		occupied := 0
		if w.trains[i] > w.now {
			occupied = 1
		}
		v.Occ[i] = api.Look{Value: occupied, Stamp: w.now, Valid: !w.once(80)}
		v.Pos[i] = api.Look{Value: w.Points[i].Cmd, Stamp: w.now, Valid: true}
	}
	for i := range v.Shut {
		v.Shut[i] = api.Look{Value: w.Crossings[i].Cmd % 2, Stamp: w.now, Valid: true}
	}
	for i := range v.Lamp {
		v.Lamp[i] = api.Look{Value: 1, Stamp: w.now, Valid: !w.once(80)}
	}
	return v
}

// runs lets trains come ahead of signals, with numbers that no other one had, and go into the paths of routes that are cleared.
func (w *world) runs() {
	for x, signal := range w.c.Signals {
		if w.once(20) {
			w.trains[signal.Section] = w.now + 1 + w.throw(12)
			if w.berths[x] == 0 {
				w.last++
				w.berths[x] = w.last
			}
		}
	}
	for r, route := range w.Routes {
		if route.State == api.Open && w.once(4) {
			for i, s := range w.c.Routes[r].Path {
				w.trains[s.Section] = w.now + 1 + w.throw(4)*(i+1)
			}
		}
	}
	for line := range w.Lines {
		w.Lines[line].Peer.Grant = w.Lines[line].Ask
	}
}

// asks asks for what is due, and holds that it may be so. (P16.2)
func (w *world) asks(t *testing.T, v api.View) {
	t.Helper()
	list := ars.Due(w.c, w.Core, v, w.now, w.done, w.table...)
	for i, n := range list {
		entry, was := w.table[n], w.Core.Routes[w.table[n].Route]
		if entry.Time > w.now || w.done[n] || was.State != api.Idle {
			// Of two entries for one route the first one that is due may have locked it just now.
			if !slices.ContainsFunc(list[:i], func(m int) bool { return w.done[m] && w.table[m].Route == entry.Route }) {
				t.Errorf("at %d due is %d, %v: done %v, route %v", w.now, n, entry, w.done[n], was)
			}
		}
		if i > 0 && (w.table[list[i-1]].Time > entry.Time || w.table[list[i-1]].Time == entry.Time && list[i-1] >= n) {
			t.Errorf("at %d due are %v of %v", w.now, list, w.table)
		}
		k, e := locks.Request(w.c, w.Core, w.now, entry.Route)
		w.came[fmt.Sprint("asked ", e)]++
		if e == api.OK {
			w.Core, w.done[n] = k, true
		}
	}
}

// cycles takes a cycle of the routes, and lets the numbers go on. (P16.3)
func (w *world) cycles(t *testing.T, v api.View) {
	t.Helper()
	is, _, e := kernel.Step(w.c, w.Core, v, w.now)
	if e != api.OK {
		t.Fatal("kernel: error ", e)
	}
	behind := ars.Berths(w.c, w.Core, is, w.berths...)
	list(t, "berths", behind, workedBerths(w.c, w.Core, is, w.berths)...)
	if moreOften(t, w.berths, behind) > 0 {
		t.Errorf("at %d a number stands twice: %v, ahead %v", w.now, behind, w.berths)
	}
	for x, number := range behind {
		if number != w.berths[x] {
			w.came[fmt.Sprint("changed to none ", number == 0)]++
		}
	}
	is.Dirty = false
	w.Core, w.berths = is, behind
}

// P16.2, P16.3: rows of cycles, in which no entry is due again that was done, none ahead of its time, and all numbers stay at one berth at most.
func TestRows(t *testing.T) {
	came := map[string]int{}
	for _, text := range []string{chapter, double, fork, ring()} {
		for seed := range 12 {
			w := newWorld(t, seed, text, came)
			for range 700 {
				w.now++
				w.runs()
				v := w.sees()
				w.asks(t, v)
				w.cycles(t, v)
				if t.Failed() {
					t.Fatal("seed ", seed, ", station:\n", text)
				}
			}
			for _, done := range w.done {
				came[fmt.Sprint("done ", done)]++
			}
		}
	}
	for _, name := range []string{"asked 0", "asked 22", "asked 23", "changed to none true", "changed to none false", "done true"} {
		if came[name] < 100 {
			t.Errorf("%s came only %d times: %v", name, came[name], came)
		}
	}
}

// R4: the same rows give the same answers.
func TestSameAgain(t *testing.T) {
	row := func() string {
		w, answers := newWorld(t, 7, double, map[string]int{}), ""
		for range 500 {
			w.now++
			w.runs()
			v := w.sees()
			answers += fmt.Sprint(ars.Due(w.c, w.Core, v, w.now, w.done, w.table...), w.berths, ";")
			w.asks(t, v)
			w.cycles(t, v)
		}
		return answers
	}
	if first, second := row(), row(); first != second {
		t.Errorf("first:\n%s\nthen:\n%s", first, second)
	}
}

// spare is the list with memory behind it, which is filled.
func spare[T any](list []T, fill T) []T {
	return append(slices.Clone(list), fill, fill, fill)[:len(list)]
}

// whole is the list with the memory behind it.
func whole[T any](list []T) []T { return list[:cap(list)] }

// memory tells all that stands in the lists of what is handed in, and behind them.
func memory(c api.Config, v api.View, states ...api.Core) string {
	text := fmt.Sprint(whole(v.Occ), whole(v.Pos), whole(v.Shut), whole(v.Lamp), whole(c.Sections), whole(c.Joints), whole(c.Signals), whole(c.Crossings), whole(c.Routes), c.Timing)
	for _, r := range c.Routes {
		text += fmt.Sprint(whole(r.Path), whole(r.Flank), whole(r.Overlap))
	}
	for _, k := range states {
		text += fmt.Sprint(whole(k.Own), whole(k.Routes), whole(k.Points), whole(k.Crossings), whole(k.Lines), whole(k.Resets), k.Dirty)
	}
	return text
}

// spared is the state with memory behind each of its lists.
func spared(k api.Core) api.Core {
	return api.Core{Own: spare(k.Own, 71), Routes: spare(k.Routes, api.RouteState{State: 72}), Points: spare(k.Points, api.Mover{Cmd: 73}),
		Crossings: spare(k.Crossings, api.Mover{Cmd: 74}), Lines: spare(k.Lines, api.LineState{Ask: 75}), Resets: spare(k.Resets, 76)}
}

// P16.1, R5: what is handed in stays, its spare memory too, also when all that was answered is written over, and what is behind it.
func TestMemory(t *testing.T) {
	c := station(t, double)
	c.Sections, c.Joints, c.Signals = spare(c.Sections, api.Section{Kind: 81}), spare(c.Joints, api.Joint{A: 82}), spare(c.Signals, api.Signal{Section: 83})
	c.Crossings, c.Routes = spare(c.Crossings, 84), spare(c.Routes, api.Route{Entry: 85})
	for i, r := range c.Routes {
		c.Routes[i].Path, c.Routes[i].Flank, c.Routes[i].Overlap = spare(r.Path, api.Step{Section: 86}), spare(r.Flank, api.Need{Section: 87}), spare(r.Overlap, 88)
	}
	far := api.Look{Value: 61, Stamp: 62, Valid: true}
	v := full(c)
	v = api.View{Occ: spare(v.Occ, far), Pos: spare(v.Pos, far), Shut: spare(v.Shut, far), Lamp: spare(v.Lamp, far)}
	was, is, misfit := spared(in(c, api.Open, 0, 2)), spared(in(c, api.Ending, 0, 2)), spared(api.Core{})
	table := spare([]api.Entry{{Time: 9, Route: 1, Train: 5}, {Time: 3, Route: 3, Train: 6}, {Time: 3, Route: 2, Train: 7}, {Time: 4, Route: 1, Train: 8}}, api.Entry{Time: 1, Route: 1, Train: 1})
	done := spare([]bool{false, true}, true)
	for size := range 9 {
		berths := spare(numbered(size), 91)
		for i, call := range []func() []int{
			func() []int { return ars.Due(c, was, v, 20, done, table...) },
			func() []int { return ars.Due(c, was, v, 20, nil, table...) },
			func() []int { return ars.Due(c, misfit, v, 20, done, table...) },
			func() []int { return []int{int(ars.Check(c, table...))} },
			func() []int { return ars.Berths(c, was, is, berths...) },
			func() []int { return ars.Berths(c, was, was, berths...) },
			func() []int { return ars.Berths(c, was, misfit, berths...) },
			func() []int { return ars.Berths(c, misfit, is, berths...) },
		} {
			all := func() string {
				return memory(c, v, was, is, misfit) + fmt.Sprint(whole(table), whole(done), whole(berths))
			}
			before, got := all(), call()
			want := slices.Clone(got)
			for i := range whole(got) {
				whole(got)[i] = -99
			}
			if all() != before {
				t.Errorf("call %d, %d berths: what was handed in was changed:\n%s; was\n%s", i, size, all(), before)
			}
			list(t, fmt.Sprint("call ", i, " again"), call(), want...)
		}
	}
}

// R3: lists that are nil are as those without elements.
func TestNoElements(t *testing.T) {
	c := station(t, single)
	none := c
	none.Joints, none.Signals, none.Crossings, none.Routes = []api.Joint{}, []api.Signal{}, []int{}, []api.Route{}
	c.Joints, c.Signals, c.Crossings, c.Routes = nil, nil, nil, nil
	for _, c := range []api.Config{c, none} {
		for _, k := range []api.Core{empty(c), changed(empty(c), func(k *api.Core) { k.Routes, k.Crossings = nil, nil })} {
			checks(t, "no entry", c, api.OK)
			dues(t, "no entry", c, k, full(c), 9, []bool{}, []api.Entry{})
			stand(t, "no signal", c, k, k, []int{5, 6})
			stand(t, "no signal", c, k, api.Core{}, []int{5, 6}, 5, 6)
		}
	}
}

// R1: configurations, states, views and timetables from anywhere: no call panics.
func TestNothingPanics(t *testing.T) {
	right := station(t, double)
	numbers := []int{0, 1, 2, 3, 4, 99, -1, math.MinInt, math.MaxInt}
	configs := []api.Config{{}, right, station(t, fork), {Routes: make([]api.Route, 2)}, {Sections: make([]api.Section, 2), Routes: []api.Route{{Entry: 7, Exit: 9}}}}
	states := []api.Core{{}, empty(right), in(right, api.Open, 0, 1, 2, 3, 4, 5, 6), in(right, api.Ending, 0, 1, 2, 3, 4, 5, 6), {Own: numbers, Routes: make([]api.RouteState, 1)}}
	views := []api.View{{}, full(right), {Occ: make([]api.Look, 2), Lamp: make([]api.Look, 9)}}
	var table []api.Entry
	for _, n := range numbers {
		table = append(table, api.Entry{Time: n, Route: n, Train: n})
	}
	for _, c := range configs {
		for i := range table {
			ars.Check(c, table[i:]...)
			for _, k := range states {
				for _, v := range views {
					ars.Due(c, k, v, numbers[i], make([]bool, i), table[i:]...)
					ars.Due(c, k, v, numbers[i], nil, api.Entry{Train: 1})
				}
				for _, is := range states {
					ars.Berths(c, k, is, numbers[:i]...)
				}
			}
		}
	}
}
