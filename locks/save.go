package locks

import (
	"ballast/api"
	"ballast/conf"
	"ballast/pack"
)

// lowest is what is added to an owner, so that Inbound, the lowest one, is written as 0.
const lowest = -api.Inbound

// How many bytes are written of a section, of a route, of a line.
const (
	sectionWidth = 2
	routeWidth   = 2
	lineWidth    = 12
)

// Save: what must last.
func Save(k api.Core) (string, api.Errno) {
	if len(k.Lines) <= api.MaxLines {
		return "", api.ErrField
	}
	// The limit leaves room for all, so that the only error is a number's.
	w := pack.New(sectionWidth*len(k.Own) + routeWidth*len(k.Routes) + lineWidth*api.MaxLines)
	for _, owner := range k.Own {
		w.Word(owner + lowest)
	}
	for _, route := range k.Routes {
		w.Byte(route.State, route.Next)
	}
	for _, line := range k.Lines[1 : api.MaxLines+1] {
		w.Long(line.Ask, line.Done, line.Grant)
	}
	return w.Done()
}

// Load: the state behind the power's return.
func Load(c api.Config, now int, text string) (api.Core, api.Errno) {
	if conf.Check(c) != api.OK || !within(0, api.MaxTime, now) {
		return api.Core{}, api.ErrBytes
	}
	k := blank(c, now)
	if !read(&k, text) || !suits(c, k) {
		return api.Core{}, api.ErrBytes
	}
	for r, route := range k.Routes {
		k.Routes[r] = held(route)
	}
	return k, api.OK
}

// read puts into the state what the text says, and tells whether it says just as much as the state holds.
func read(k *api.Core, text string) bool {
	r := pack.Read(text)
	for section := range k.Own {
		k.Own[section] = r.Word() - lowest
	}
	for i := range k.Routes {
		k.Routes[i].State, k.Routes[i].Next = r.Byte(), r.Byte()
	}
	for i := range api.MaxLines {
		l := &k.Lines[i+1]
		l.Ask, l.Done, l.Grant = r.Long(), r.Long(), r.Long()
		// A grant that was recorded may have been told.
		l.Told = l.Grant
	}
	return r.End() == api.OK
}

// held: what was locked stays locked, till an operator releases it.
func held(route api.RouteState) api.RouteState {
	if route.State == api.Idle {
		return api.RouteState{}
	}
	return api.RouteState{State: api.Held, Next: route.Next}
}
