package kernel

import (
	"ballast/api"
	"ballast/core"
	"ballast/mover"
)

// eye is what is seen of the elements, and how old telegrams may be.
type eye struct {
	api.View
	age int
}

// clear: is each of the sections clear?
func (e eye) clear(sections ...int) bool {
	for _, section := range sections {
		if !core.Clear(e.Occ[section]) {
			return false
		}
	}
	return true
}

// clearBehind: is the section clear, and was it so behind the cycle?
func (e eye) clearBehind(section, cycle int) bool {
	return e.clear(section) && e.Occ[section].Stamp > cycle
}

// lit: is the signal's lamp well?
func (e eye) lit(signal int) bool {
	look := e.Lamp[signal]
	return look.Valid && look.Value == 1
}

// pointProved: does the section's point stand as its mover is commanded?
func (e eye) pointProved(section int, m api.Mover) bool {
	return mover.Proven(m, e.Pos[section], e.age)
}

// crossingProved: does the crossing stand as its mover is commanded?
func (e eye) crossingProved(crossing int, m api.Mover) bool {
	return mover.Proven(m, e.Shut[crossing], e.age)
}
