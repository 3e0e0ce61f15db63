package conf

import (
	"slices"
	"strconv"
	"strings"

	"ballast/api"
)

// The words of the lines, each with how many numbers stand behind it; steps and needs repeat theirs.
const (
	sectionWord, sectionWidth   = "section", 3
	jointWord, jointWidth       = "joint", 4
	signalWord, signalWidth     = "signal", 2
	crossingWord, crossingWidth = "crossing", 1
	routeWord, routeWidth       = "route", 3
	pathWord, stepWidth         = "path", 3
	flankWord, needWidth        = "flank", 2
	overlapWord                 = "overlap"
	timingWord, timingWidth     = "timing", 4
)

// Text: the configuration as lines.
func Text(c api.Config) string {
	var s sheet
	for _, n := range c.Sections {
		s.line(row(sectionWord, n.Kind, n.OC, n.Line))
	}
	for _, n := range c.Joints {
		s.line(row(jointWord, n.A, n.AEnd, n.B, n.BEnd))
	}
	for _, n := range c.Signals {
		s.line(row(signalWord, n.Section, n.End))
	}
	for _, n := range c.Crossings {
		s.line(row(crossingWord, n))
	}
	for _, r := range c.Routes {
		s.line(row(routeWord, r.Entry, r.Exit, digit(r.Shunt)), row(pathWord, stepNumbers(r.Path)...),
			row(flankWord, needNumbers(r.Flank)...), row(overlapWord, r.Overlap...))
	}
	s.line(row(timingWord, c.Timing.Age, c.Timing.Brake, c.Timing.Hold, c.Timing.Budget))
	return s.String()
}

// Read: the configuration of a text.
func Read(text string) (api.Config, api.Errno) {
	var p plan
	for line := range strings.Lines(text) {
		p.take(line)
	}
	// What was taken is only a guess: it holds if the text is just what Text makes of it.
	if Text(p.Config) != text {
		return api.Config{}, api.ErrLine
	}
	return p.Config, api.OK
}

// sheet gathers lines.
type sheet struct{ strings.Builder }

// line writes a line of rows.
func (s *sheet) line(rows ...string) {
	s.WriteString(strings.Join(rows, " "))
	s.WriteByte('\n')
}

// row: a word, and the numbers behind it.
func row(word string, numbers ...int) string {
	bytes := []byte(word)
	for _, n := range numbers {
		bytes = strconv.AppendInt(append(bytes, ' '), int64(n), 10)
	}
	return string(bytes)
}

func digit(is bool) int {
	if is {
		return 1
	}
	return 0
}

func stepNumbers(path []api.Step) []int {
	var list []int
	for _, s := range path {
		list = append(list, s.Section, s.In, s.Out)
	}
	return list
}

func needNumbers(flank []api.Need) []int {
	var list []int
	for _, n := range flank {
		list = append(list, n.Section, n.Pos)
	}
	return list
}

// take takes what a line tells into the plan, if it has a line's word and as many numbers.
func (p *plan) take(line string) {
	word, rest, _ := strings.Cut(line, " ")
	if word == routeWord {
		p.takeRoute(rest)
		return
	}
	n := numbers(rest)
	switch {
	case word == sectionWord && len(n) == sectionWidth:
		p.Sections = append(p.Sections, api.Section{Kind: n[0], OC: n[1], Line: n[2]})
	case word == jointWord && len(n) == jointWidth:
		p.Joints = append(p.Joints, api.Joint{A: n[0], AEnd: n[1], B: n[2], BEnd: n[3]})
	case word == signalWord && len(n) == signalWidth:
		p.Signals = append(p.Signals, api.Signal{Section: n[0], End: n[1]})
	case word == crossingWord && len(n) == crossingWidth:
		p.Crossings = append(p.Crossings, n[0])
	case word == timingWord && len(n) == timingWidth:
		p.Timing = api.Timing{Age: n[0], Brake: n[1], Hold: n[2], Budget: n[3]}
	}
}

// takeRoute takes a route, of whose line the first word is gone.
func (p *plan) takeRoute(line string) {
	head, line, _ := strings.Cut(line, " "+pathWord)
	path, line, _ := strings.Cut(line, " "+flankWord)
	flank, overlap, _ := strings.Cut(line, " "+overlapWord)
	first, steps, needs := numbers(head), numbers(path), numbers(flank)
	if len(first) != routeWidth || len(steps)%stepWidth != 0 || len(needs)%needWidth != 0 {
		return
	}
	r := api.Route{Entry: first[0], Exit: first[1], Shunt: first[2] == 1, Overlap: numbers(overlap)}
	for s := range slices.Chunk(steps, stepWidth) {
		r.Path = append(r.Path, api.Step{Section: s[0], In: s[1], Out: s[2]})
	}
	for n := range slices.Chunk(needs, needWidth) {
		r.Flank = append(r.Flank, api.Need{Section: n[0], Pos: n[1]})
	}
	p.Routes = append(p.Routes, r)
}

// numbers: a number for each word of a part of a line, any one for a word that is none.
func numbers(part string) []int {
	var list []int
	for word := range strings.FieldsSeq(part) {
		n, _ := strconv.Atoi(word)
		list = append(list, n)
	}
	return list
}
