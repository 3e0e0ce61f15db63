package kernel_test

import (
	"fmt"
	"testing"

	"ballast/api"
	"ballast/kernel"
)

// change is a change of a state and a view, and whether the route that was ready is so still.
type change struct {
	name  string
	do    func(k *api.Core, v *api.View)
	ready bool
}

// try holds each change alone against a route that is ready at the stamp.
func try(t *testing.T, c api.Config, k api.Core, stamp, r int, changes ...change) {
	t.Helper()
	if !kernel.Ready(c, k, calm(c, k, stamp), r) {
		t.Fatal("not ready: ", r)
	}
	for _, x := range changes {
		k := copied(k)
		v := calm(c, k, stamp)
		x.do(&k, &v)
		if got := kernel.Ready(c, k, v, r); got != x.ready {
			t.Errorf("route %d, %s: ready %v", r, x.name, got)
		}
	}
}

// looksAt are changes of one look: not valid, and other values.
func looksAt(name string, at func(v *api.View) *api.Look, ready bool, wrong ...int) []change {
	list := []change{{name + " not valid", func(k *api.Core, v *api.View) { at(v).Valid = false }, ready}}
	for _, value := range wrong {
		list = append(list, change{fmt.Sprint(name, " ", value), func(k *api.Core, v *api.View) { at(v).Value = value }, ready})
	}
	return list
}

func occ(section int) func(v *api.View) *api.Look {
	return func(v *api.View) *api.Look { return &v.Occ[section] }
}
func pos(section int) func(v *api.View) *api.Look {
	return func(v *api.View) *api.Look { return &v.Pos[section] }
}
func shut(n int) func(v *api.View) *api.Look {
	return func(v *api.View) *api.Look { return &v.Shut[n] }
}
func lamp(n int) func(v *api.View) *api.Look {
	return func(v *api.View) *api.Look { return &v.Lamp[n] }
}

// P14.1: each section of the path, and the overlap that the route owns, is clear; whatever the stamp. All other sections, its flank's too, play no part.
func TestReadySections(t *testing.T) {
	c := station(t, double)
	k := locked(t, c, 5, 0)
	for section := range c.Sections {
		counts := section == 1 || section == 2 || section == 3
		try(t, c, k, 9, 0, looksAt(fmt.Sprint("section ", section), occ(section), !counts, 1, 2, -1, 1<<32)...)
		for _, stamp := range append([]int{0, 5, 8, 9, api.MaxTime}, odd...) {
			try(t, c, k, 9, 0, change{fmt.Sprint("section ", section, " at ", stamp), func(k *api.Core, v *api.View) { v.Occ[section].Stamp = stamp }, true})
		}
	}
}

// P14.1: an overlap that the route doesn't own, whoever does, plays no part.
func TestReadyOverlaps(t *testing.T) {
	c := station(t, double)
	k := locked(t, c, 5, 0)
	for owner := api.Inbound; owner <= len(c.Routes); owner++ {
		k.Own[3] = owner
		try(t, c, k, 9, 0, looksAt(fmt.Sprint("overlap of ", owner), occ(3), owner != 1, 1)...)
	}
	// The route 2 is another one's heir: what was the overlap of route 0 is of its own path.
	d := station(t, fork)
	k = locked(t, d, 5, 0, 2)
	try(t, d, k, 8, 0, looksAt("inherited", occ(3), true, 1)...)
	try(t, d, k, 8, 2, looksAt("of the heir's path", occ(3), false, 1)...)
}

// P14.1: the points of path and flank are commanded as they are needed, and proved; all others play no part.
func TestReadyPoints(t *testing.T) {
	c := station(t, double)
	k := locked(t, c, 5, 0)
	for section := range c.Sections {
		counts := section == 1 || section == 5
		name := fmt.Sprint("point ", section)
		try(t, c, k, 9, 0, looksAt(name, pos(section), !counts, 2, 3, -1)...)
		try(t, c, k, 9, 0,
			change{name + " nowhere", func(k *api.Core, v *api.View) { v.Pos[section].Value = api.Nowhere }, !counts},
			change{name + " with no command", func(k *api.Core, v *api.View) { k.Points[section].Cmd, v.Pos[section].Value = 0, 0 }, !counts},
			change{name + " proved elsewhere", func(k *api.Core, v *api.View) { k.Points[section].Cmd, v.Pos[section].Value = 2, 2 }, !counts},
			change{name + " commanded elsewhere", func(k *api.Core, v *api.View) { k.Points[section].Cmd = 2 }, !counts},
			change{name + " too early", func(k *api.Core, v *api.View) { v.Pos[section].Stamp = 8 }, !counts},
			change{name + " commanded too late", func(k *api.Core, v *api.View) { k.Points[section].Other = 6 }, !counts},
			change{name + " commanded earlier", func(k *api.Core, v *api.View) { k.Points[section].Other = -1 }, true},
			change{name + " seen later", func(k *api.Core, v *api.View) { v.Pos[section].Stamp = 10 }, true},
		)
	}
	// The route 1 needs both in the other position.
	k = locked(t, c, 5, 1)
	for _, section := range []int{1, 5} {
		try(t, c, k, 9, 1,
			change{"proved normal", func(k *api.Core, v *api.View) { k.Points[section].Cmd, v.Pos[section].Value = 1, 1 }, false},
			change{"seen normal", func(k *api.Core, v *api.View) { v.Pos[section].Value = 1 }, false},
			change{"commanded normal", func(k *api.Core, v *api.View) { k.Points[section].Cmd = 1 }, false},
			change{"seen too early", func(k *api.Core, v *api.View) { v.Pos[section].Stamp = 8 }, false},
		)
	}
}

// P14.1: the crossings of the path are proved; all others play no part.
func TestReadyCrossings(t *testing.T) {
	c := station(t, double)
	for r, on := range map[int][]int{0: {1}, 1: {0, 2}, 3: {}, 4: {1}, 5: {0, 2}} {
		k := locked(t, c, 5, r)
		k.Lines[1].Peer.Grant = k.Lines[1].Ask
		counts := make([]bool, 3)
		for _, n := range on {
			counts[n] = true
		}
		for n := range c.Crossings {
			name := fmt.Sprint("crossing ", n)
			if counts[n] {
				try(t, c, k, 9, r, looksAt(name, shut(n), false, 0, 2, -1)...)
			} else {
				try(t, c, k, 9, r, looksAt(name, shut(n), true, 0, 1, 2)...)
			}
			try(t, c, k, 9, r,
				change{name + " with no command", func(k *api.Core, v *api.View) { k.Crossings[n].Cmd, v.Shut[n].Value = 0, 0 }, !counts[n]},
				change{name + " commanded to open", func(k *api.Core, v *api.View) { k.Crossings[n].Cmd, v.Shut[n].Value = 2, 1 }, !counts[n]},
				change{name + " open", func(k *api.Core, v *api.View) { k.Crossings[n].Cmd, v.Shut[n].Value = 2, 0 }, !counts[n]},
				change{name + " too early", func(k *api.Core, v *api.View) { v.Shut[n].Stamp = 8 }, !counts[n]},
				change{name + " commanded too late", func(k *api.Core, v *api.View) { k.Crossings[n].Other = 6 }, !counts[n]},
				change{name + " seen later", func(k *api.Core, v *api.View) { v.Shut[n].Stamp = 10 }, true},
			)
		}
	}
}

// P14.1: the entry signal's lamp is well, whatever the stamp; no other lamp plays a part.
func TestReadyLamps(t *testing.T) {
	c := station(t, double)
	for r, route := range c.Routes {
		k := locked(t, c, 5, r)
		k.Lines[1].Peer.Grant = k.Lines[1].Ask
		for x := range c.Signals {
			name := fmt.Sprint("lamp ", x)
			try(t, c, k, 9, r, looksAt(name, lamp(x), x != route.Entry, 0, 2, -1, 1<<32+1)...)
			for _, stamp := range odd {
				try(t, c, k, 9, r, change{name + " far off", func(k *api.Core, v *api.View) { v.Lamp[x].Stamp = stamp }, true})
			}
		}
	}
}

// P14.1: of a route that goes out on a line the neighbour's Grant is what was asked for last; other numbers, and other lines', play no part.
func TestReadyLines(t *testing.T) {
	c := station(t, fork)
	for r, line := range []int{0, 0, 0, 0, 2, 3, 3, 0} {
		k := locked(t, c, 5, r)
		for i := range k.Lines {
			k.Lines[i].Ask, k.Lines[i].Peer.Grant = 20+i, 20+i
		}
		for i := range k.Lines {
			counts := i == line && i > 0
			try(t, c, k, 8, r,
				change{"a Grant too early", func(k *api.Core, v *api.View) { k.Lines[i].Peer.Grant-- }, !counts},
				change{"a Grant too late", func(k *api.Core, v *api.View) { k.Lines[i].Peer.Grant++ }, !counts},
				change{"asked again", func(k *api.Core, v *api.View) { k.Lines[i].Ask++ }, !counts},
				change{"no Grant", func(k *api.Core, v *api.View) { k.Lines[i].Peer.Grant = 0 }, !counts},
				change{"nothing asked", func(k *api.Core, v *api.View) { k.Lines[i].Ask, k.Lines[i].Peer.Grant = 0, 0 }, true},
				change{"at MaxTime", func(k *api.Core, v *api.View) { k.Lines[i].Ask, k.Lines[i].Peer.Grant = api.MaxTime, api.MaxTime }, true},
				change{"other numbers", func(k *api.Core, v *api.View) {
					l := &k.Lines[i]
					l.Done, l.Grant, l.Told, l.Since, l.Peer.Ask, l.Peer.Done = 91, 92, 93, 94, 95, 96
				}, true},
			)
		}
	}
}

// P14.1: whatever the route's State, Dirty or not, whoever owns its path and flank: that plays no part; nor do the other routes.
func TestReadyOfStates(t *testing.T) {
	c := station(t, double)
	k := locked(t, c, 5, 0)
	for state := api.Idle; state <= api.Held; state++ {
		for _, r := range []int{0, 2} {
			try(t, c, k, 9, 0, change{fmt.Sprint("route ", r, " in state ", state), func(k *api.Core, v *api.View) {
				k.Routes[r] = api.RouteState{State: state, Since: 3, Next: 1, Mark: 4}
				k.Dirty = state%2 == 0
				k.Resets[1] = 7
			}, true})
		}
	}
	for owner := api.Inbound; owner <= len(c.Routes); owner++ {
		for _, section := range []int{0, 1, 2, 5} {
			try(t, c, k, 9, 0, change{"another owner", func(k *api.Core, v *api.View) { k.Own[section] = owner }, true})
		}
	}
}

// P14.1: no route is ready that there isn't, no route with a state or a view that doesn't fit, or with a configuration that isn't right.
func TestNotReady(t *testing.T) {
	c := station(t, double)
	k := locked(t, c, 5, 0)
	v := calm(c, k, 9)
	for _, r := range append([]int{7, 8}, odd...) {
		if kernel.Ready(c, k, v, r) {
			t.Error("ready: ", r)
		}
	}
	for name, k := range misfits(k) {
		if kernel.Ready(c, k, v, 0) {
			t.Error("ready with a state that doesn't fit: ", name)
		}
	}
	for name, v := range wrongViews(v) {
		if kernel.Ready(c, k, v, 0) {
			t.Error("ready with a view that doesn't fit: ", name)
		}
	}
	for name, c := range wrongConfigs(t) {
		if kernel.Ready(c, k, v, 0) {
			t.Error("ready with a configuration that isn't right: ", name)
		}
	}
	if !kernel.Ready(c, k, v, 0) {
		t.Error("not ready")
	}
}

// misfits are states that don't fit, by one number or one length.
func misfits(k api.Core) map[string]api.Core {
	list := map[string]func(k *api.Core){
		"Own":          func(k *api.Core) { k.Own[0] = 8 },
		"State":        func(k *api.Core) { k.Routes[6].State = 6 },
		"Next":         func(k *api.Core) { k.Routes[6].Next = 2 },
		"Since":        func(k *api.Core) { k.Routes[6].Since = -1 },
		"Mark":         func(k *api.Core) { k.Routes[6].Mark = api.MaxTime + 1 },
		"point":        func(k *api.Core) { k.Points[0].Cmd = 3 },
		"crossing":     func(k *api.Core) { k.Crossings[0].Other = -2 },
		"line":         func(k *api.Core) { k.Lines[3].Peer.Ask = -1 },
		"Resets":       func(k *api.Core) { k.Resets[7] = -1 },
		"a section":    func(k *api.Core) { k.Own = k.Own[:7] },
		"a route more": func(k *api.Core) { k.Routes = append(k.Routes, api.RouteState{}) },
		"a point":      func(k *api.Core) { k.Points = k.Points[:7] },
		"a crossing":   func(k *api.Core) { k.Crossings = k.Crossings[:2] },
		"a line":       func(k *api.Core) { k.Lines = k.Lines[:3] },
		"no Resets":    func(k *api.Core) { k.Resets = nil },
		"nothing":      func(k *api.Core) { *k = api.Core{} },
	}
	wrong := map[string]api.Core{}
	for name, do := range list {
		wrong[name] = changed(k, do)
	}
	return wrong
}

// wrongViews are views with one list too short, too long, or without elements.
func wrongViews(v api.View) map[string]api.View {
	wrong := map[string]api.View{"nothing": {}}
	for i, name := range []string{"Occ", "Pos", "Shut", "Lamp"} {
		at := func(v *api.View) *[]api.Look { return []*[]api.Look{&v.Occ, &v.Pos, &v.Shut, &v.Lamp}[i] }
		wrong[name+" too short"] = seen(v, func(v *api.View) { *at(v) = (*at(v))[1:] })
		wrong[name+" too long"] = seen(v, func(v *api.View) { *at(v) = append(*at(v), (*at(v))[0]) })
		wrong[name+" nil"] = seen(v, func(v *api.View) { *at(v) = nil })
	}
	return wrong
}

// wrongConfigs are the station double with one rule off, with the lengths of all lists as they are.
func wrongConfigs(t *testing.T) map[string]api.Config {
	wrong := map[string]api.Config{}
	for name, spoil := range map[string]func(c *api.Config){
		"kind":     func(c *api.Config) { c.Sections[4].Kind = 3 },
		"line":     func(c *api.Config) { c.Sections[6].Line = 2 },
		"joint":    func(c *api.Config) { c.Joints[3].A = 1 },
		"signal":   func(c *api.Config) { c.Signals[4].End = 1 },
		"crossing": func(c *api.Config) { c.Crossings[0] = 99 },
		"entry":    func(c *api.Config) { c.Routes[5].Entry = 5 },
		"path":     func(c *api.Config) { c.Routes[5].Path = nil },
		"section":  func(c *api.Config) { c.Routes[0].Path[1].Section = -1 },
		"flank":    func(c *api.Config) { c.Routes[2].Flank[0].Section = 77 },
		"overlap":  func(c *api.Config) { c.Routes[0].Overlap[0] = 88 },
		"age":      func(c *api.Config) { c.Timing.Age = 9 },
		"hold":     func(c *api.Config) { c.Timing.Hold = 5 },
	} {
		c := station(t, double)
		spoil(&c)
		wrong[name] = c
	}
	return wrong
}
