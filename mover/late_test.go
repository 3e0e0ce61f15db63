package mover_test

import (
	"fmt"
	"testing"

	"ballast/api"
	"ballast/mover"
)

// order is a command that was sent, and its cycle.
type order struct{ cycle, cmd int }

// report is a look, and how many places of the thing had been noted ahead of it.
type report struct {
	look api.Look
	from int
}

// world is a mover, the commands that were sent to it, and the thing that they move.
type world struct {
	dice
	api.Mover
	late    int // no command comes later than this behind its cycle
	now     int
	sent    []order
	first   int   // the place in sent of the first one that may still come
	places  []int // where the thing stood, noted as often as it might have changed
	left    int   // how many ticks the thing still moves
	goal    int   // where it will stand
	reports []report
}

// newWorld begins in the middle: up to now anything may have been commanded, and the thing stands or moves anyhow.
func newWorld(seed, late int) *world {
	w := &world{dice: dice(seed), late: late}
	for w.now = 50; w.now < 60; w.now++ {
		w.send(w.throw(3))
	}
	w.Mover = mover.Start(w.now)
	if seed%3 == 0 {
		w.Mover = api.Mover{Cmd: 1, Other: w.now}
	}
	w.send(w.throw(3))
	w.goal, w.left = w.throw(3), w.throw(3)
	w.note()
	return w
}

func (w *world) send(cmd int) { w.sent = append(w.sent, order{w.now, cmd}) }

// place is where the thing stands; it is nowhere while it moves.
func (w *world) place() int {
	if w.left > 0 {
		return api.Nowhere
	}
	return w.goal
}

func (w *world) note() { w.places = append(w.places, w.place()) }

// command gives the mover a command now and then, sometimes two in one cycle, and sends what it is given.
func (w *world) command() {
	for range w.some(0, 0, 0, 0, 0, 0, 0, 0, 0, 0, 1, 2) {
		w.send(w.Cmd)
		w.Mover = mover.Command(w.Mover, w.now, w.throw(3))
	}
	w.send(w.Cmd)
}

// arrive lets commands come: none that is too late, none that is older than one that came before, each of them never, once, or often.
func (w *world) arrive() {
	for w.first < len(w.sent) && w.sent[w.first].cycle < w.now-w.late {
		w.first++
	}
	for range w.some(0, 1, 1, 2, 3) {
		if w.first == len(w.sent) {
			return
		}
		w.first += w.some(0, 0, 0, w.throw(len(w.sent)-w.first))
		w.heed(w.sent[w.first].cmd)
		if w.throw(2) == 0 {
			w.first++
		}
	}
}

// heed: a command that comes moves the thing only if it isn't where it stands; now and then it then comes to stand elsewhere, or takes long.
func (w *world) heed(cmd int) {
	if cmd != w.place() && w.throw(8) > 0 {
		w.goal, w.left = w.some(cmd, cmd, cmd, w.throw(3)), w.some(api.Travel, api.Travel, 1, 5)
	}
	w.note()
}

// tell reports the truth of this cycle.
func (w *world) tell() {
	w.reports = append(w.reports, report{api.Look{Value: w.place(), Stamp: w.now, Valid: true}, len(w.places) - 1})
}

// cycle lets a cycle go by. The truth of a cycle may be the one ahead of what comes in it, or the one behind.
func (w *world) cycle() {
	w.now++
	if w.left > 0 {
		w.left--
	}
	w.note()
	early := w.throw(2) == 0
	if early {
		w.tell()
	}
	w.command()
	w.arrive()
	if !early {
		w.tell()
	}
}

// check asks for each report that there was whether it proves; it counts those that do, and those of them behind which the thing stood otherwise.
func (w *world) check(age int) (int, int) {
	yes, wrong := 0, 0
	for _, r := range w.reports {
		if !mover.Proven(w.Mover, r.look, age) {
			continue
		}
		yes++
		for _, place := range w.places[r.from:] {
			if place != w.Cmd {
				wrong++
				break
			}
		}
	}
	return yes, wrong
}

// run lets worlds go on in which commands come as late as told, and are believed to come no later than the age; it tells what check counts in all.
func run(late, age int) (int, int) {
	yes, wrong := 0, 0
	for seed := range 400 {
		w := newWorld(seed, late)
		for range 150 {
			w.cycle()
			y, n := w.check(age)
			yes, wrong = yes+y, wrong+n
		}
	}
	return yes, wrong
}

// P12.2: commands that come late within the age, twice, or never; where Proven is true, the thing stands as commanded from the look's stamp on.
func TestLateCommands(t *testing.T) {
	t.Parallel()
	for _, age := range []int{0, 1, 2, 3, api.MaxAge} {
		yes, wrong := run(age, age)
		if wrong > 0 {
			t.Errorf("age %d: %d of %d looks that prove were wrong", age, wrong, yes)
		}
		if yes < 1000 {
			t.Errorf("age %d: only %d looks proved", age, yes)
		}
	}
}

// P12.2 is held tightly: with commands that come one cycle later than the age that is believed, looks that prove are wrong; else the test above would say nothing.
func TestTooLateCommands(t *testing.T) {
	t.Parallel()
	for _, age := range []int{0, 1, 2, 3} {
		if _, wrong := run(age+1, age); wrong == 0 {
			t.Errorf("age %d: nothing was wrong", age)
		}
	}
}

// P12.2, step by step: a thing is commanded elsewhere and, one cycle later, back again; as long as the first of these commands may still come, no look proves.
func TestLastOldCommand(t *testing.T) {
	m := mover.Command(mover.Command(api.Mover{Cmd: 1, Other: 0}, 20, 2), 21, 1)
	// The 2 may have been sent at 21 still, and come till 21 + Age.
	for age := range api.MaxAge + 1 {
		for stamp := 15; stamp < 40; stamp++ {
			proven(t, m, valid(1, stamp), age, stamp > 21+age)
			proven(t, m, valid(api.Nowhere, stamp), age, false)
			proven(t, m, valid(2, stamp), age, false)
		}
	}
}

// P12.2: a thing whose commands come at once is proved within the age and its travel, and stays so: what is proved isn't nothing.
func TestQuiet(t *testing.T) {
	for age := 1; age <= api.MaxAge; age++ {
		m, moving := mover.Command(mover.Start(5), 10, 2), api.Travel
		for now := 10; now < 40; now++ {
			look := valid(2, now)
			if moving > 0 {
				moving--
				look.Value = api.Nowhere
			}
			m = mover.Command(m, now, 2)
			proven(t, m, look, age, now >= 10+max(api.Travel, age+1))
		}
	}
}

// R4: the same rows give the same answers.
func TestSameAgain(t *testing.T) {
	row := func() string {
		w, answers := newWorld(7, 2), ""
		for range 200 {
			w.cycle()
			yes, wrong := w.check(2)
			answers += fmt.Sprint(w.Mover, yes, wrong, ";")
		}
		return answers
	}
	if first, second := row(), row(); first != second {
		t.Errorf("first:\n%s\nthen:\n%s", first, second)
	}
}
