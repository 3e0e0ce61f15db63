package ars_test

import (
	"fmt"
	"slices"
	"testing"

	"ballast/api"
	"ballast/ars"
)

// checks holds what Check says of the timetable.
func checks(t *testing.T, name string, c api.Config, want api.Errno, table ...api.Entry) {
	t.Helper()
	if got := ars.Check(c, table...); got != want {
		t.Errorf("%s: error %d; want %d", name, got, want)
	}
}

// entries is a table of so many times this entry.
func entries(n int, entry api.Entry) []api.Entry { return slices.Repeat([]api.Entry{entry}, n) }

// P16.1: a right table may have from none to MaxEntries entries, whatever the station; also the same one again and again.
func TestCheckLengths(t *testing.T) {
	for _, text := range stations() {
		c := station(t, text)
		checks(t, "no entry", c, api.OK)
		checks(t, "no entry", c, api.OK, []api.Entry{}...)
		for r := range c.Routes {
			for n := range 40 {
				want := api.OK
				if n > 16 {
					want = api.ErrFull
				}
				checks(t, fmt.Sprint(n, " entries"), c, want, entries(n, api.Entry{Time: 5, Route: r, Train: 7})...)
			}
		}
	}
	checks(t, "very many", station(t, chapter), api.ErrFull, make([]api.Entry, 1<<16)...)
}

// place is where in a table of some length an entry stands.
type place struct{ at, of int }

// each checks the entry at the beginning, in the middle and at the end of tables of right ones.
func each(t *testing.T, name string, c api.Config, want api.Errno, entry api.Entry) {
	t.Helper()
	for _, p := range []place{{0, 1}, {0, 5}, {2, 5}, {4, 5}, {0, 16}, {7, 16}, {15, 16}} {
		table := entries(p.of, api.Entry{Time: 5, Route: 0, Train: 7})
		table[p.at] = entry
		checks(t, fmt.Sprintf("%s %v at %d of %d", name, entry, p.at, p.of), c, want, table...)
		// One that isn't right isn't made so by others that aren't.
		if want != api.OK {
			checks(t, fmt.Sprint("all ", name, " ", entry), c, want, entries(p.of, entry)...)
		}
	}
}

// P16.1: each of an entry's numbers alone at its bounds, below and beyond them, wherever the entry stands.
func TestCheckFields(t *testing.T) {
	for _, text := range []string{chapter, double, fork, ring()} {
		c := station(t, text)
		last := len(c.Routes) - 1
		for _, n := range []int{0, 1, 5, 65536, api.MaxTime - 1, api.MaxTime} {
			each(t, "Time", c, api.OK, api.Entry{Time: n, Route: last, Train: 7})
		}
		for _, n := range append([]int{-1, api.MaxTime + 1, api.MaxTime + 2}, odd...) {
			each(t, "Time", c, api.ErrField, api.Entry{Time: n, Route: last, Train: 7})
		}
		for r := range c.Routes {
			each(t, "Route", c, api.OK, api.Entry{Time: 5, Route: r, Train: 7})
		}
		for _, n := range append([]int{-1, last + 1, last + 2, 12, 255}, odd...) {
			each(t, "Route", c, api.ErrField, api.Entry{Time: 5, Route: n, Train: 7})
		}
		for _, n := range []int{1, 2, 255, 256, 9998, 9999} {
			each(t, "Train", c, api.OK, api.Entry{Time: 5, Route: 0, Train: n})
		}
		for _, n := range append([]int{0, -1, 10000, 10001, 65536 + 7}, odd...) {
			each(t, "Train", c, api.ErrField, api.Entry{Time: 5, Route: 0, Train: n})
		}
		each(t, "least", c, api.OK, api.Entry{Time: 0, Route: 0, Train: 1})
		each(t, "greatest", c, api.OK, api.Entry{Time: api.MaxTime, Route: last, Train: 9999})
		each(t, "zero", c, api.ErrField, api.Entry{})
	}
}

// P16.1: of a station without routes no entry is right.
func TestCheckNoRoutes(t *testing.T) {
	c := station(t, single)
	for _, n := range append([]int{0, -1, 1}, odd...) {
		checks(t, fmt.Sprint("route ", n), c, api.ErrField, api.Entry{Time: 5, Route: n, Train: 7})
	}
}

// P16.1: a configuration that isn't right stands ahead of a table that is too long, and that ahead of an entry that isn't right.
func TestCheckOrder(t *testing.T) {
	right, wrong := api.Entry{Time: 5, Route: 0, Train: 7}, api.Entry{Time: -1, Route: 99, Train: 0}
	tables := [][]api.Entry{nil, {right}, {wrong}, {right, wrong}, entries(17, right), entries(17, wrong), append(entries(16, right), wrong), append(entries(1, wrong), entries(16, right)...)}
	configs := wrongConfigs(t)
	configs["none"] = api.Config{}
	for name, c := range configs {
		for i, table := range tables {
			checks(t, fmt.Sprint(name, ", table ", i), c, api.ErrState, table...)
		}
	}
	c := station(t, chapter)
	for i, want := range []api.Errno{api.OK, api.OK, api.ErrField, api.ErrField, api.ErrFull, api.ErrFull, api.ErrFull, api.ErrFull} {
		checks(t, fmt.Sprint("table ", i), c, want, tables[i]...)
	}
}
