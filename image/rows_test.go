package image_test

import (
	"fmt"
	"math"
	"slices"
	"testing"

	"ballast/api"
	"ballast/image"
	"ballast/link"
)

// telegram is one that a controller sent: its bytes, and what it says.
type telegram struct {
	oc, stamp int
	text      string
	payload   string
}

// world is a station that is thrown together, what its controllers send, and what is under way.
type world struct {
	dice
	api.Config
	now     int
	senders [4]*link.Sender
	way     []telegram
	sent    []telegram
}

// newWorld's stations have sections of odd kinds and controllers too; crossings and signals stand at sections and beside them.
func newWorld(seed int) *world {
	w := &world{dice: dice(seed)}
	for range w.throw(12) {
		w.Sections = append(w.Sections, api.Section{Kind: w.some(0, 1, 1, 2, 3, -1), OC: w.some(0, 1, 2, 3, 0, 1, 4, -1, math.MaxInt)})
	}
	place := func() int { return w.some(w.throw(len(w.Sections)+1), w.throw(len(w.Sections)+1), -1, math.MaxInt) }
	for range w.throw(6) {
		w.Crossings = append(w.Crossings, place())
	}
	for range w.throw(8) {
		w.Signals = append(w.Signals, api.Signal{Section: place(), End: w.throw(3)})
	}
	w.Timing.Age = w.some(0, 1, 2, 3, 8)
	w.now = w.some(0, 5, 1000, api.MaxTime-20)
	for oc := range w.senders {
		w.senders[oc] = link.NewSender(oc)
	}
	return w
}

// owner tells whose the section is; -1: it is no controller's.
func (w *world) owner(section int) int {
	for i, s := range w.Sections {
		if i == section && s.OC >= 0 && s.OC < 4 {
			return s.OC
		}
	}
	return -1
}

// elements are by the sort's number whose each thing is: sections, Points, crossings, signals.
func (w *world) elements() [4][]int {
	var all [4][]int
	for i, s := range w.Sections {
		owner := w.owner(i)
		all[0] = append(all[0], owner)
		if s.Kind != api.Point {
			owner = -1
		}
		all[1] = append(all[1], owner)
	}
	for _, section := range w.Crossings {
		all[2] = append(all[2], w.owner(section))
	}
	for _, s := range w.Signals {
		all[3] = append(all[3], w.owner(s.Section))
	}
	return all
}

// greatest are the greatest numbers that a status has, by the sorts of elements; worst is what is seen where nothing is known.
var (
	greatest = [4]int{1, 2, 1, 1}
	worst    = [4]int{1, 0, 0, 0}
)

// right is a payload of the controller that is right, whose numbers are thrown.
func (w *world) right(oc int) string {
	text := []byte{1}
	for sort, owners := range w.elements() {
		for _, owner := range owners {
			if owner == oc {
				text = append(text, byte(w.throw(greatest[sort]+1)))
			}
		}
	}
	return string(text)
}

// status is a payload of the controller: mostly a right one.
func (w *world) status(oc int) string {
	text := []byte(w.right(oc))
	switch w.throw(14) {
	case 0:
		text[w.throw(len(text))] = byte(w.some(0, 1, 2, 3, 255))
	case 1:
		text = append(text, byte(w.throw(2)))
	case 2:
		text = text[:w.throw(len(text))]
	}
	return string(text)
}

// send lets a telegram of a controller begin its way; now and then one with another stamp or a number out of the row.
func (w *world) send(oc int) {
	payload, stamp := w.status(oc), max(0, w.now+w.some(0, 0, 0, 0, 1, -1))
	text, e := w.senders[oc].Send(stamp, payload)
	if w.throw(10) == 0 {
		text, e = link.Make(oc, w.throw(65536), stamp, payload)
	}
	if e == api.OK {
		g := telegram{oc, stamp, text, payload}
		w.sent, w.way = append(w.sent, g), append(w.way, g)
	}
}

// come is a telegram that comes, for a controller: an old one or a new one, once or again; now and then spoilt, or handed in as another's.
func (w *world) come() (int, string) {
	if len(w.way) == 0 {
		return w.throw(6) - 1, ""
	}
	i := w.some(0, len(w.way)-1, w.throw(len(w.way)))
	g := w.way[i]
	if w.throw(4) > 0 {
		w.way = slices.Delete(w.way, i, i+1)
	}
	switch w.throw(16) {
	case 0:
		text := []byte(g.text)
		text[w.throw(len(text))] ^= byte(1 + w.throw(255))
		return g.oc, string(text)
	case 1:
		return g.oc, g.text[:w.throw(len(g.text))]
	case 2:
		return w.some(-1, 4, 256, math.MinInt, math.MaxInt), g.text
	case 3:
		return w.throw(4), g.text
	}
	return g.oc, g.text
}

// book is an image said another way: the right payloads that each controller told, and no shapes.
type book struct {
	world     *world
	receivers [4]*link.Receiver
	told      [4]telegram
}

func newBook(w *world) *book {
	b := &book{world: w}
	for oc := range b.receivers {
		b.receivers[oc] = link.NewReceiver(oc, w.Timing.Age)
		b.told[oc].stamp = -1
	}
	return b
}

func (b *book) take(now, oc int, text string) api.Errno {
	if oc < 0 || oc > 3 {
		return api.ErrIndex
	}
	payload, e := b.receivers[oc].Take(now, text)
	if e != api.OK {
		return e
	}
	if !b.right(oc, payload) {
		return api.ErrBytes
	}
	b.told[oc] = telegram{oc: oc, stamp: b.receivers[oc].Last(), payload: payload}
	return api.OK
}

// right: is the payload a right status of the controller?
func (b *book) right(oc int, payload string) bool {
	bounds := []int{}
	for sort, owners := range b.world.elements() {
		for _, owner := range owners {
			if owner == oc {
				bounds = append(bounds, greatest[sort])
			}
		}
	}
	if len(payload) != 1+len(bounds) || payload[0] != 1 {
		return false
	}
	for i, bound := range bounds {
		if int(payload[1+i]) > bound {
			return false
		}
	}
	return true
}

func (b *book) alive(now, oc int) bool {
	if oc < 0 || oc > 3 || b.told[oc].stamp < 0 {
		return false
	}
	for age := range b.world.Timing.Age + 1 {
		if b.told[oc].stamp+age == now {
			return true
		}
	}
	return false
}

func (b *book) view(now int) [4][]api.Look {
	var looks [4][]api.Look
	at := [4]int{1, 1, 1, 1}
	for sort, owners := range b.world.elements() {
		for _, owner := range owners {
			look := api.Look{Value: worst[sort], Stamp: -1}
			if b.alive(now, owner) {
				look = api.Look{Value: int(b.told[owner].payload[at[owner]]), Stamp: b.told[owner].stamp, Valid: true}
				at[owner]++
			}
			looks[sort] = append(looks[sort], look)
		}
	}
	return looks
}

func (b *book) lost() int {
	sum := 0
	for _, r := range b.receivers {
		sum += r.Lost()
	}
	return sum
}

// sorted are a view's lists by the sorts of elements.
func sorted(v api.View) [4][]api.Look { return [4][]api.Look{v.Occ, v.Pos, v.Shut, v.Lamp} }

// held holds all that the image tells at a time against the book.
func held(t *testing.T, name string, m *image.Image, b *book, now int) {
	t.Helper()
	got, want := sorted(m.View(now)), b.view(now)
	for sort := range want {
		if !slices.Equal(got[sort], want[sort]) {
			t.Fatalf("%s: looks of the sort %d at %d: %v; want %v", name, sort, now, got[sort], want[sort])
		}
	}
	for oc := -1; oc < 5; oc++ {
		if m.Alive(now, oc) != b.alive(now, oc) {
			t.Fatalf("%s: controller %d at %d: alive %v", name, oc, now, m.Alive(now, oc))
		}
	}
	if m.Lost() != b.lost() {
		t.Fatalf("%s: Lost %d; want %d", name, m.Lost(), b.lost())
	}
}

// truthful holds P11.2 against what was sent: a valid look was told by the element's controller, in a telegram with this stamp, at most Age ago; it tells how many looks are valid.
func (w *world) truthful(t *testing.T, name string, m *image.Image, now int) int {
	t.Helper()
	valid, looks := 0, sorted(m.View(now))
	at := [4]int{}
	for sort, owners := range w.elements() {
		for i, owner := range owners {
			place := 0
			if owner >= 0 {
				at[owner]++
				place = at[owner]
			}
			look := looks[sort][i]
			if !look.Valid {
				if look != (api.Look{Value: worst[sort], Stamp: -1}) {
					t.Fatalf("%s: %v isn't the worst of the sort %d", name, look, sort)
				}
				continue
			}
			valid++
			if now < look.Stamp || now-look.Stamp > w.Timing.Age || !w.told(owner, place, look) {
				t.Fatalf("%s: nobody told %v of the thing %d of the sort %d at %d", name, look, i, sort, now)
			}
		}
	}
	return valid
}

// told: did the controller send with that stamp that its thing at this place has that value?
func (w *world) told(oc, place int, look api.Look) bool {
	return slices.ContainsFunc(w.sent, func(g telegram) bool {
		return g.oc == oc && g.stamp == look.Stamp && place < len(g.payload) && int(g.payload[place]) == look.Value
	})
}

// P11.1, P11.2: on stations thrown together, with telegrams lost, late, doubled, spoilt, out of order, strange and astray, at times that go on, stand and go back.
func TestRows(t *testing.T) {
	codes, valid := map[api.Errno]int{}, 0
	for seed := range 400 {
		w := newWorld(seed)
		m, b := image.New(w.Config), newBook(w)
		for step := range 120 {
			name := fmt.Sprintf("world %d, step %d", seed, step)
			for oc := range 4 {
				if w.throw(3) > 0 {
					w.send(oc)
				}
			}
			for range w.throw(7) {
				oc, text := w.come()
				got, want := m.Take(w.now, oc, text), b.take(w.now, oc, text)
				if got != want {
					t.Fatalf("%s: Take at %d of %d, %x: %d; want %d", name, w.now, oc, text, got, want)
				}
				codes[got]++
			}
			for _, now := range []int{w.now, w.now + w.throw(2*w.Timing.Age+4) - w.Timing.Age - 2, w.some(math.MinInt, -1, 0, math.MaxInt)} {
				held(t, name, m, b, now)
			}
			valid += w.truthful(t, name, m, w.now)
			w.now = max(0, w.now+w.some(0, 1, 1, 1, 2, 3, -1))
			// What is too old to come is on its way no more, but for some of it.
			if len(w.way) > 12 {
				w.way = w.way[len(w.way)-8:]
			}
		}
	}
	for _, e := range []api.Errno{api.OK, api.ErrIndex, api.ErrShort, api.ErrSum, api.ErrBytes, api.ErrPeer, api.ErrFuture, api.ErrOld, api.ErrAgain} {
		if codes[e] < 50 {
			t.Errorf("the code %d came %d times", e, codes[e])
		}
	}
	if valid < 10000 {
		t.Errorf("%d valid looks", valid)
	}
}

// P11.2: of a controller that falls silent all looks are the worst Age + 1 behind its last telegram, and those of the others aren't.
func TestSilence(t *testing.T) {
	for seed := range 200 {
		w := newWorld(seed)
		m, b := image.New(w.Config), newBook(w)
		silent, last := w.throw(4), w.now+5
		for ; w.now <= last+w.Timing.Age+1; w.now++ {
			for oc, s := range w.senders {
				text, e := s.Send(w.now, w.right(oc))
				if e != api.OK || oc == silent && w.now > last {
					continue
				}
				if m.Take(w.now, oc, text) != api.OK || b.take(w.now, oc, text) != api.OK {
					t.Fatalf("world %d: a right telegram of %d was refused", seed, oc)
				}
			}
			held(t, fmt.Sprintf("world %d, silent %d", seed, silent), m, b, w.now)
		}
		for sort, looks := range sorted(m.View(w.now - 1)) {
			for i, owner := range w.elements()[sort] {
				if looks[i].Valid != (owner >= 0 && owner != silent) {
					t.Fatalf("world %d: %d is silent, but the thing %d of the sort %d is %v", seed, silent, i, sort, looks[i])
				}
			}
		}
	}
}

// R4: the same row of calls on a new image gives the same answers.
func TestSameAgain(t *testing.T) {
	row := func(seed int) string {
		w := newWorld(seed)
		m, answers := image.New(w.Config), ""
		for range 40 {
			for oc := range 4 {
				w.send(oc)
				from, text := w.come()
				answers += fmt.Sprint(m.Take(w.now, from, text), m.View(w.now), m.Alive(w.now, oc), m.Lost(), ";")
			}
			w.now++
		}
		return answers
	}
	for seed := range 50 {
		if row(seed) != row(seed) {
			t.Fatal("other answers in the world ", seed)
		}
	}
}
