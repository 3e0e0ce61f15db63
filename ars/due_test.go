package ars_test

import (
	"fmt"
	"math"
	"testing"

	"ballast/api"
	"ballast/conf"
)

// The chapter's example.
func TestExample(t *testing.T) {
	c := station(t, chapter)
	k, v := empty(c), full(c)
	for _, section := range []int{1, 3, 4} {
		v.Occ[section].Value = 0
	}
	table := []api.Entry{{Time: 5, Route: 1, Train: 7}, {Time: 3, Route: 0, Train: 7}}
	dues(t, "at 9", c, k, v, 9, nil, table, 1, 0)
	dues(t, "at 4", c, k, v, 4, nil, table, 1)
	dues(t, "with done at 9", c, k, v, 9, []bool{false, true}, table, 0)
}

// flags are so many bits of a number.
func flags(bits, n int) []bool {
	list := make([]bool, n)
	for i := range list {
		list[i] = bits>>i&1 == 1
	}
	return list
}

// P16.1: an entry is done if done has its place and true there; a list that is shorter leaves the others as not done, and what is behind the table plays no part.
func TestDueDone(t *testing.T) {
	c := station(t, double)
	for n := range 5 {
		table := entries(n, api.Entry{Time: 5, Route: 2, Train: 7})
		dues(t, "no list", c, empty(c), full(c), 9, nil, table, []int{0, 1, 2, 3}[:n]...)
		for size := range 8 {
			for bits := range 1 << size {
				done := flags(bits, size)
				var want []int
				for i := range n {
					if bits>>i&1 == 0 {
						want = append(want, i)
					}
				}
				dues(t, fmt.Sprint(n, " entries, done ", done), c, empty(c), full(c), 9, done, table, want...)
			}
		}
	}
	table := entries(16, api.Entry{Time: 5, Route: 2, Train: 7})
	dues(t, "the last of many", c, empty(c), full(c), 9, flags(1<<15-1, 15), table, 15)
	dues(t, "all of many", c, empty(c), full(c), 9, flags(1<<16-1, 16), table)
	dues(t, "a list far too long", c, empty(c), full(c), 9, flags(1<<16-2, 64), table, 0)
}

// P16.1, P16.2: an entry is due from its Time on, not earlier, whatever now is.
func TestDueTimes(t *testing.T) {
	c := station(t, chapter)
	times := []int{0, 1, 5, 1 << 31, api.MaxTime - 1, api.MaxTime}
	for _, time := range times {
		table := []api.Entry{{Time: time, Route: 0, Train: 7}}
		for _, now := range []int{time, time + 1, time + 2, time + 1<<32, math.MaxInt} {
			dues(t, fmt.Sprintf("%d at %d", time, now), c, empty(c), full(c), now, nil, table, 0)
		}
		for _, now := range []int{time - 1, time - 2, time - 1<<32, -1, math.MinInt} {
			dues(t, fmt.Sprintf("%d at %d", time, now), c, empty(c), full(c), now, nil, table)
		}
	}
	// Of all of them those are due whose Time has come.
	var table []api.Entry
	for _, time := range times {
		table = append(table, api.Entry{Time: time, Route: 0, Train: 7})
	}
	numbers := []int{0, 1, 2, 3, 4, 5}
	for i, time := range times {
		dues(t, fmt.Sprint("all at ", time), c, empty(c), full(c), time, nil, table, numbers[:i+1]...)
		dues(t, fmt.Sprint("all ahead of ", time), c, empty(c), full(c), time-1, nil, table, numbers[:i]...)
	}
}

// P16.1, P16.2: an entry is due only while its own route is Idle; no other route, and nothing else of the state, plays a part.
func TestDueStates(t *testing.T) {
	for _, text := range stations() {
		c := station(t, text)
		for r := range c.Routes {
			table := []api.Entry{{Time: 5, Route: r, Train: 7}}
			for other := range c.Routes {
				for state := api.Idle; state <= api.Held; state++ {
					var want []int
					if state == api.Idle || other != r {
						want = []int{0}
					}
					dues(t, fmt.Sprintf("route %d with %d in state %d", r, other, state), c, in(c, state, other), full(c), 9, nil, table, want...)
				}
			}
			k := changed(in(c, api.Idle), func(k *api.Core) {
				for i := range k.Own {
					k.Own[i], k.Resets[i], k.Points[i] = -1-i%2, 3, api.Mover{Cmd: 2, Other: 50}
				}
				k.Routes[r] = api.RouteState{Since: 4, Next: 1, Mark: 3}
				k.Lines[1], k.Dirty = api.LineState{Ask: 9, Grant: 8}, true
			})
			dues(t, fmt.Sprint("route ", r, " in another state"), c, k, full(c), 9, nil, table, 0)
		}
	}
}

// P16.1: an entry is due only while its route's approach is seen, and is occupied; whatever the stamp. No other look plays a part.
func TestDueApproaches(t *testing.T) {
	for _, text := range stations() {
		c := station(t, text)
		for r := range c.Routes {
			table := []api.Entry{{Time: 5, Route: r, Train: 7}}
			for section := range c.Sections {
				counts := section == conf.Approach(c, r)
				for _, look := range []api.Look{{Value: 1, Valid: true}, {Value: 0, Valid: true}, {Value: 2, Valid: true}, {Value: -1, Valid: true}, {Value: 1<<32 + 1, Valid: true}, {Value: 1}, {}} {
					var want []int
					if !counts || look.Valid && look.Value == 1 {
						want = []int{0}
					}
					for _, stamp := range append([]int{0, 5, 9, api.MaxTime}, odd...) {
						look.Stamp = stamp
						v := seen(full(c), func(v *api.View) { v.Occ[section] = look })
						dues(t, fmt.Sprintf("route %d, section %d, look %v", r, section, look), c, empty(c), v, 9, nil, table, want...)
					}
				}
			}
			dues(t, fmt.Sprint("route ", r, " at the worst"), c, empty(c), worst(c), 9, nil, table)
			well := seen(worst(c), func(v *api.View) {
				for _, looks := range [][]api.Look{v.Pos, v.Shut, v.Lamp} {
					for i := range looks {
						looks[i] = api.Look{Value: 1, Stamp: 9, Valid: true}
					}
				}
			})
			dues(t, fmt.Sprint("route ", r, " with no section seen"), c, empty(c), well, 9, nil, table)
			well.Occ[conf.Approach(c, r)].Valid = true
			dues(t, fmt.Sprint("route ", r, " with its approach alone"), c, empty(c), well, 9, nil, table, 0)
		}
	}
}

// P16.1, P16.2: those that are due stand by their Time, those of one Time by their numbers, whatever routes and trains they are for: all tables of five entries with four Times.
func TestDueOrder(t *testing.T) {
	c := station(t, double)
	for code := range 1 << 10 {
		var table []api.Entry
		for i := range 5 {
			table = append(table, api.Entry{Time: 10 + code>>(2*i)&3, Route: []int{4, 0, 4, 6, 1}[i], Train: 9 - i})
		}
		for now := 9; now <= 13; now++ {
			var want []int
			for time := 10; time <= now; time++ {
				for i, entry := range table {
					if entry.Time == time {
						want = append(want, i)
					}
				}
			}
			dues(t, fmt.Sprintf("%v at %d", table, now), c, empty(c), full(c), now, nil, table, want...)
		}
	}
}

// P16.2: of very many entries, too, each stands once; those of one Time by their numbers.
func TestDueOrderOfMany(t *testing.T) {
	c := station(t, ring())
	var table []api.Entry
	for i := range 16 {
		table = append(table, api.Entry{Time: []int{7, 0, api.MaxTime, 7}[i%4], Route: i % 11, Train: 100 - i})
	}
	dues(t, "all", c, empty(c), full(c), api.MaxTime, nil, table, 1, 5, 9, 13, 0, 3, 4, 7, 8, 11, 12, 15, 2, 6, 10, 14)
	dues(t, "most", c, empty(c), full(c), api.MaxTime-1, nil, table, 1, 5, 9, 13, 0, 3, 4, 7, 8, 11, 12, 15)
	dues(t, "of one Time", c, empty(c), full(c), 5, nil, entries(16, api.Entry{Time: 5, Route: 3, Train: 9}), 0, 1, 2, 3, 4, 5, 6, 7, 8, 9, 10, 11, 12, 13, 14, 15)
}

// P16.1: of a timetable that may be none, nothing is due, though other entries of it would be; nor with a state or a view that doesn't fit, or for a configuration that isn't right.
func TestDueOfNothing(t *testing.T) {
	c := station(t, double)
	k, v := empty(c), full(c)
	right := api.Entry{Time: 5, Route: 0, Train: 7}
	dues(t, "right", c, k, v, 9, nil, []api.Entry{right, right}, 0, 1)
	dues(t, "no entry", c, k, v, 9, nil, nil)
	dues(t, "one too many", c, k, v, 9, nil, entries(17, right))
	for _, wrong := range []api.Entry{{Time: -1, Route: 0, Train: 7}, {Time: api.MaxTime + 1, Route: 0, Train: 7}, {Time: 5, Route: -1, Train: 7}, {Time: 5, Route: 7, Train: 7}, {Time: 5, Route: 0, Train: 0}, {Time: 5, Route: 0, Train: 10000}} {
		dues(t, fmt.Sprint("a wrong one: ", wrong), c, k, v, math.MaxInt, nil, []api.Entry{right, wrong})
		// One that is done isn't right for that.
		dues(t, fmt.Sprint("a wrong one that is done: ", wrong), c, k, v, math.MaxInt, []bool{true, false}, []api.Entry{wrong, right})
	}
	for name, k := range misfits(k) {
		dues(t, "state: "+name, c, k, v, 9, nil, []api.Entry{right})
	}
	for name, v := range wrongViews(v) {
		dues(t, "view: "+name, c, k, v, 9, nil, []api.Entry{right})
	}
	for name, c := range wrongConfigs(t) {
		dues(t, "configuration: "+name, c, k, v, 9, nil, []api.Entry{right})
		dues(t, "configuration: "+name, c, k, v, 9, nil, nil)
	}
}
