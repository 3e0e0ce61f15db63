// Package core is no layer: it holds what several layers need of the interlocking's states and of the views that go with them.
package core

import (
	"slices"

	"ballast/api"
	"ballast/conf"
)

// Copy: the state in memory of its own.
func Copy(k api.Core) api.Core {
	return api.Core{
		Own:       slices.Clone(k.Own),
		Routes:    slices.Clone(k.Routes),
		Points:    slices.Clone(k.Points),
		Crossings: slices.Clone(k.Crossings),
		Lines:     slices.Clone(k.Lines),
		Resets:    slices.Clone(k.Resets),
		Dirty:     k.Dirty,
	}
}

// Sees: has the view a look for each element of the configuration, and no more?
func Sees(c api.Config, v api.View) bool {
	return len(v.Occ) == len(c.Sections) &&
		len(v.Pos) == len(c.Sections) &&
		len(v.Shut) == len(c.Crossings) &&
		len(v.Lamp) == len(c.Signals)
}

// Clear: does the look tell that its section is clear?
func Clear(look api.Look) bool { return look.Valid && look.Value == 0 }

// Approached: is the section the approach of a locked route? A train may stand there that was told it may go.
func Approached(c api.Config, k api.Core, section int) bool {
	for r, route := range k.Routes {
		if route.State != api.Idle && conf.Approach(c, r) == section {
			return true
		}
	}
	return false
}
