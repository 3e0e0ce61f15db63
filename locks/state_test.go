package locks_test

import (
	"fmt"
	"math"
	"slices"
	"testing"

	"ballast/api"
	"ballast/conf"
	"ballast/locks"
)

// P13.1: the state at the first start, number by number.
func TestNew(t *testing.T) {
	c := station(t, fork)
	answers(t, "New", locks.New(c, 9), api.OK, api.Core{
		Own:       []int{-1, -1, -1, -1, -1, -1, -1},
		Routes:    make([]api.RouteState, 8),
		Points:    []api.Mover{{}, {}, {}, {Cmd: 0, Other: 9}, {}, {Cmd: 0, Other: 9}, {}},
		Crossings: []api.Mover{{Cmd: 1, Other: 9}, {Cmd: 1, Other: 9}},
		Lines:     make([]api.LineState, 4),
		Resets:    make([]int, 7),
		Dirty:     true,
	}, api.OK)
	for _, now := range append(slices.Clone(rightTimes), odd...) {
		k := locks.New(c, now)
		for _, m := range []api.Mover{k.Points[3], k.Points[5]} {
			if m != (api.Mover{Other: now}) {
				t.Errorf("at %d a point: %v", now, m)
			}
		}
		for _, m := range k.Crossings {
			if m != (api.Mover{Cmd: 1, Other: now}) {
				t.Errorf("at %d a crossing: %v", now, m)
			}
		}
	}
}

// P13.1, P13.2: of each right station the state at the first start fits, with all sections Cold; what is no Point has no mover.
func TestNewFits(t *testing.T) {
	for _, text := range stations() {
		c := station(t, text)
		for _, now := range rightTimes {
			k := locks.New(c, now)
			if !locks.Fits(c, k) || !k.Dirty {
				t.Errorf("at %d: %+v", now, k)
			}
			for i, s := range c.Sections {
				if k.Own[i] != api.Cold || s.Kind != api.Point && k.Points[i] != (api.Mover{}) {
					t.Errorf("at %d section %d: %+v", now, i, k)
				}
			}
		}
	}
}

// P13.1, R1: configurations that aren't right have a state, too; it has a place for each of their things.
func TestNewOfWrong(t *testing.T) {
	c := api.Config{Sections: []api.Section{{Kind: api.Diamond}, {Kind: 77}, {Kind: api.Point, OC: -1}, {Kind: math.MinInt}}, Crossings: []int{-1, 99, 2}, Routes: make([]api.Route, 40)}
	closed := api.Mover{Cmd: 1, Other: 6}
	answers(t, "New", locks.New(c, 6), api.OK, api.Core{
		Own:       []int{-1, -1, -1, -1},
		Routes:    make([]api.RouteState, 40),
		Points:    []api.Mover{{}, {}, {Other: 6}, {}},
		Crossings: []api.Mover{closed, closed, closed},
		Lines:     make([]api.LineState, 4),
		Resets:    make([]int, 4),
		Dirty:     true,
	}, api.OK)
	answers(t, "New of nothing", locks.New(api.Config{}, 6), api.OK, api.Core{Lines: make([]api.LineState, 4), Dirty: true}, api.OK)
}

// bound is a number of a state, with its name and what it may be.
type bound struct {
	name        string
	at          *int
	least, most int
}

// bounds are all numbers of a state.
func bounds(c api.Config, k *api.Core) []bound {
	const latest = 4294967295
	var list []bound
	add := func(at *int, least, most int, name string, n int) {
		list = append(list, bound{fmt.Sprint(name, " ", n), at, least, most})
	}
	for i := range k.Own {
		add(&k.Own[i], -2, len(c.Routes), "Own", i)
		add(&k.Points[i].Cmd, 0, 2, "point's Cmd", i)
		add(&k.Points[i].Other, -1, latest, "point's Other", i)
		add(&k.Resets[i], 0, latest+1, "Resets", i)
	}
	for i := range k.Routes {
		r := &k.Routes[i]
		add(&r.State, 0, 5, "State", i)
		add(&r.Since, 0, latest, "Since", i)
		add(&r.Next, 0, len(c.Routes[i].Path), "Next", i)
		add(&r.Mark, 0, latest, "Mark", i)
	}
	for i := range k.Crossings {
		add(&k.Crossings[i].Cmd, 0, 2, "crossing's Cmd", i)
		add(&k.Crossings[i].Other, -1, latest, "crossing's Other", i)
	}
	for i := range k.Lines {
		l := &k.Lines[i]
		for n, at := range []*int{&l.Ask, &l.Done, &l.Grant, &l.Told, &l.Peer.Ask, &l.Peer.Done, &l.Peer.Grant} {
			add(at, 0, latest, fmt.Sprint("line's number ", n), i)
		}
		add(&l.Since, 0, latest+1, "line's Since", i)
	}
	return list
}

// P13.1: each number alone at its bounds fits, and just beyond them, and far beyond, it doesn't; Dirty plays no part.
func TestFitsEachNumber(t *testing.T) {
	for _, text := range stations() {
		c := station(t, text)
		k := empty(c)
		for _, b := range bounds(c, &k) {
			was := *b.at
			for _, n := range append([]int{b.least - 1, b.least, b.least + 1, b.most - 1, b.most, b.most + 1, b.most + 2}, odd...) {
				*b.at = n
				if got := locks.Fits(c, k); got != (n >= b.least && n <= b.most) {
					t.Errorf("%s as %d: %v", b.name, n, got)
				}
			}
			*b.at = was
			k.Dirty = !k.Dirty
			if !locks.Fits(c, k) {
				t.Errorf("%s put right again, Dirty %v: no", b.name, k.Dirty)
			}
		}
	}
}

// P13.1: states with all numbers at their least, with all at their greatest, and states thrown together within them, fit.
func TestFitsThrown(t *testing.T) {
	for _, text := range stations() {
		c := station(t, text)
		for _, greatest := range []bool{false, true} {
			k := empty(c)
			for _, b := range bounds(c, &k) {
				*b.at = b.least
				if greatest {
					*b.at = b.most
				}
			}
			if !locks.Fits(c, k) {
				t.Errorf("all at the bounds, greatest %v: %+v", greatest, k)
			}
		}
		throws := dice(3)
		for range 200 {
			k := thrown(&throws, c)
			if !locks.Fits(c, k) {
				t.Fatalf("doesn't fit: %+v", k)
			}
			all := bounds(c, &k)
			b := all[throws.throw(len(all))]
			*b.at = b.most + 1
			if locks.Fits(c, k) {
				t.Fatalf("fits with %s one too great", b.name)
			}
		}
	}
}

// P13.1: each list alone shorter by one, longer by one, or nil.
func TestFitsEachLength(t *testing.T) {
	for _, text := range stations() {
		c := station(t, text)
		k := empty(c)
		longer := map[string]api.Core{
			"Own":       changed(k, func(k *api.Core) { k.Own = append(k.Own, 0) }),
			"Routes":    changed(k, func(k *api.Core) { k.Routes = append(k.Routes, api.RouteState{}) }),
			"Points":    changed(k, func(k *api.Core) { k.Points = append(k.Points, api.Mover{}) }),
			"Crossings": changed(k, func(k *api.Core) { k.Crossings = append(k.Crossings, api.Mover{}) }),
			"Lines":     changed(k, func(k *api.Core) { k.Lines = append(k.Lines, api.LineState{}) }),
			"Resets":    changed(k, func(k *api.Core) { k.Resets = append(k.Resets, 0) }),
		}
		shorter := map[string]api.Core{
			"Own":       changed(k, func(k *api.Core) { k.Own = k.Own[1:] }),
			"Routes":    changed(k, func(k *api.Core) { k.Routes = k.Routes[min(1, len(k.Routes)):] }),
			"Points":    changed(k, func(k *api.Core) { k.Points = k.Points[1:] }),
			"Crossings": changed(k, func(k *api.Core) { k.Crossings = k.Crossings[min(1, len(k.Crossings)):] }),
			"Lines":     changed(k, func(k *api.Core) { k.Lines = k.Lines[1:] }),
			"Resets":    changed(k, func(k *api.Core) { k.Resets = k.Resets[1:] }),
		}
		none := map[string]api.Core{
			"Own":       changed(k, func(k *api.Core) { k.Own = nil }),
			"Routes":    changed(k, func(k *api.Core) { k.Routes = nil }),
			"Points":    changed(k, func(k *api.Core) { k.Points = nil }),
			"Crossings": changed(k, func(k *api.Core) { k.Crossings = nil }),
			"Lines":     changed(k, func(k *api.Core) { k.Lines = nil }),
			"Resets":    changed(k, func(k *api.Core) { k.Resets = nil }),
		}
		for name, k := range longer {
			if locks.Fits(c, k) {
				t.Error("fits with one too many: ", name)
			}
		}
		for _, list := range []map[string]api.Core{shorter, none} {
			for name, k := range list {
				// A list that had no element has lost none. (R3)
				lost := name != "Routes" && name != "Crossings" || name == "Routes" && len(c.Routes) > 0 || name == "Crossings" && len(c.Crossings) > 0
				if locks.Fits(c, k) == lost {
					t.Errorf("with one too few of %s: %v", name, !lost)
				}
			}
		}
	}
}

// spoils break one rule of chapters 5 and 6 each, and leave all lists' lengths as they are.
var spoils = map[string]func(c *api.Config){
	"kind":           func(c *api.Config) { c.Sections[2].Kind = 3 },
	"controller":     func(c *api.Config) { c.Sections[2].OC = 4 },
	"line":           func(c *api.Config) { c.Sections[7].Line = 4 },
	"line's end":     func(c *api.Config) { c.Sections[6].Line = 2 },
	"joint":          func(c *api.Config) { c.Joints[3].A = 1 },
	"signal":         func(c *api.Config) { c.Signals[0].End = 0 },
	"signals at one": func(c *api.Config) { c.Signals[0] = c.Signals[1] },
	"crossing":       func(c *api.Config) { c.Crossings[0] = 8 },
	"crossing twice": func(c *api.Config) { c.Crossings[0] = 2 },
	"line crossed":   func(c *api.Config) { c.Crossings[0] = 7 },
	"entry":          func(c *api.Config) { c.Routes[0].Entry = -1 },
	"exit":           func(c *api.Config) { c.Routes[0].Exit = 5 },
	"no path":        func(c *api.Config) { c.Routes[3].Path = nil },
	"path":           func(c *api.Config) { c.Routes[0].Path[0].Out = 2 },
	"path's section": func(c *api.Config) { c.Routes[0].Path[1].Section = 99 },
	"no exit":        func(c *api.Config) { c.Routes[0].Exit = -1 },
	"shunt":          func(c *api.Config) { c.Routes[3].Shunt = true },
	"flank":          func(c *api.Config) { c.Routes[2].Flank[0].Pos = 2 },
	"no flank":       func(c *api.Config) { c.Routes[2].Flank = nil },
	"overlap":        func(c *api.Config) { c.Routes[0].Overlap[0] = 4 },
	"no overlap":     func(c *api.Config) { c.Routes[0].Overlap = nil },
	"age":            func(c *api.Config) { c.Timing.Age = 0 },
	"brake":          func(c *api.Config) { c.Timing.Brake = 9 },
	"hold":           func(c *api.Config) { c.Timing.Hold = 5 },
	"budget":         func(c *api.Config) { c.Timing.Budget = 0 },
}

// P13.1: with one of the configuration's rules off no state fits, no call does anything, and no bytes are loaded.
func TestWrongConfigurations(t *testing.T) {
	right := station(t, double)
	k := changed(empty(right), func(k *api.Core) {
		k.Own[4] = api.Cold
		k.Routes[1].State, k.Routes[5].State, k.Routes[6].State = api.Fallen, api.Open, api.Held
	})
	if !locks.Fits(right, k) {
		t.Fatal("doesn't fit")
	}
	text, _ := locks.Save(k)
	if _, e := locks.Load(right, 5, text); e != api.OK {
		t.Fatal("can't be loaded")
	}
	for name, spoil := range spoils {
		c := station(t, double)
		spoil(&c)
		if conf.Check(c) == api.OK {
			t.Error("is right: ", name)
		}
		if locks.Fits(c, k) {
			t.Error("fits: ", name)
		}
		got, e := locks.Load(c, 5, text)
		answers(t, "Load with "+name, got, e, api.Core{}, api.ErrBytes)
		for _, call := range callsOf(5, 0) {
			got, e := call.do(c, k)
			answers(t, call.name+" with "+name, got, e, k, api.ErrState)
		}
	}
}

// P13.1: what fits one station doesn't fit another one, unless it might be that one's.
func TestFitsOtherStations(t *testing.T) {
	all := stations()
	for i, one := range all {
		for j, other := range all {
			if k := empty(station(t, one)); locks.Fits(station(t, other), k) != (i == j) {
				t.Errorf("station %d's state in station %d", i, j)
			}
		}
	}
}
