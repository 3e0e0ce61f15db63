package link_test

import (
	"fmt"
	"math"
	"math/big"
	"testing"

	"ballast/api"
	"ballast/link"
	"ballast/seal"
	"ballast/seq"
)

// book is a receiver said another way: all telegrams that it took, and differences worked out beyond 64 bits.
type book struct {
	peer, age int
	taken     []telegram
}

// above: is a - b above the bound?
func above(a, b, bound int) bool {
	d := new(big.Int).Sub(big.NewInt(int64(a)), big.NewInt(int64(b)))
	return d.Cmp(big.NewInt(int64(bound))) > 0
}

func (b *book) take(now int, text string) (string, api.Errno) {
	body, e := seal.Open(text)
	if e != api.OK {
		return "", e
	}
	if len(body) < 7 {
		return "", api.ErrBytes
	}
	if len(body[7:]) > 1000 {
		return "", api.ErrLong
	}
	g := telegram{payload: body[7:]}
	for i, field := range []*int{&g.peer, &g.number, &g.number, &g.stamp, &g.stamp, &g.stamp, &g.stamp} {
		*field = *field*256 + int(body[i])
	}
	if g.peer != b.peer {
		return "", api.ErrPeer
	}
	if g.stamp > now {
		return "", api.ErrFuture
	}
	if above(now, g.stamp, b.age) {
		return "", api.ErrOld
	}
	for _, other := range b.taken {
		if other.stamp >= g.stamp {
			return "", api.ErrAgain
		}
	}
	b.taken = append(b.taken, g)
	return g.payload, api.OK
}

func (b *book) last() int {
	if len(b.taken) == 0 {
		return -1
	}
	return b.taken[len(b.taken)-1].stamp
}

func (b *book) alive(now int) bool {
	return len(b.taken) > 0 && !above(now, b.last(), b.age) && !above(b.last(), now, 0)
}

func (b *book) lost() int {
	row := []int{}
	for _, g := range b.taken {
		row = append(row, g.number)
	}
	return seq.Lost(row...)
}

// world is some senders, of which two are for one peer, the telegrams that are under way, and what the time is.
type world struct {
	dice
	now     int
	senders []*link.Sender
	way     []string
}

func newWorld(seed, now int) *world {
	w := &world{dice: dice(seed), now: now}
	for _, peer := range []int{3, 3, 4} {
		w.senders = append(w.senders, link.NewSender(peer))
	}
	return w
}

// send lets a telegram begin its way; now and then one whose number or stamp no sender would give.
func (w *world) send() {
	stamp := w.now + w.some(0, 0, 0, 1, -1)
	text, e := w.senders[w.some(0, 0, 0, 0, 1, 2)].Send(stamp, w.bytes(w.throw(4)))
	if w.throw(8) == 0 {
		text, e = link.Make(w.some(3, 3, 4), w.throw(65536), max(0, stamp+w.some(-4, -3, -2, 0, 2)), "odd")
	}
	if e == api.OK {
		w.way = append(w.way, text)
	}
}

// come is a telegram that comes: an old one or a new one, that is then on its way no more, or again; now and then a spoilt one.
func (w *world) come() string {
	if len(w.way) == 0 {
		return ""
	}
	i := w.some(0, len(w.way)-1, w.throw(len(w.way)))
	text := w.way[i]
	if w.throw(3) > 0 {
		w.way = append(w.way[:i:i], w.way[i+1:]...)
	}
	switch w.throw(12) {
	case 0:
		other := []byte(text)
		other[w.throw(len(other))] ^= byte(1 + w.throw(255))
		return string(other)
	case 1:
		return text[:w.throw(len(text))]
	}
	return text
}

// pass lets the time go on, stand or go back.
func (w *world) pass() {
	w.now += w.some(0, 0, 1, 1, 1, 2, 3, -1, -2)
}

// holds lets a text come to the receiver and to the book, and holds their answers against each other. It tells whether the text was taken.
func holds(t *testing.T, r *link.Receiver, b *book, now int, text string) bool {
	t.Helper()
	got, e := r.Take(now, text)
	want, wanted := b.take(now, text)
	if got != want || e != wanted {
		t.Fatalf("peer %d, age %d: Take at %d of %x: %q, %d; want %q, %d", b.peer, b.age, now, text, got, e, want, wanted)
	}
	if r.Last() != b.last() || r.Lost() != b.lost() {
		t.Fatalf("Last %d, Lost %d; want %d, %d", r.Last(), r.Lost(), b.last(), b.lost())
	}
	for _, at := range []int{now, now - 1, now + 1, b.last(), b.last() - 1, b.last() + 2, b.last() + 3, -1, math.MinInt, math.MaxInt} {
		if r.Alive(at) != b.alive(at) {
			t.Fatalf("age %d, Last %d: Alive at %d: %v", b.age, b.last(), at, r.Alive(at))
		}
	}
	return e == api.OK
}

// P9.1, P9.3: over telegrams that are lost, late, doubled, spoilt and out of order, at times that go on, stand and go back, below 0 too, receivers answer as the book does; the stamps of what they take rise strictly, and each lies between now - age and now.
func TestRows(t *testing.T) {
	t.Parallel()
	taken := 0
	for seed := range 600 {
		age := []int{0, 1, 2, 2, 3, 8, -1, math.MinInt, math.MaxInt}[seed%9]
		w := newWorld(seed, []int{-3, 0, 0, 20, api.MaxTime - 5}[seed%5])
		r, b := link.NewReceiver(3, age), &book{peer: 3, age: age}
		stamps := []int{}
		for range 120 {
			w.pass()
			w.send()
			if !holds(t, r, b, w.now, w.come()) {
				continue
			}
			taken++
			if len(stamps) > 0 && stamps[len(stamps)-1] >= r.Last() {
				t.Fatalf("seed %d: %d is taken behind %v", seed, r.Last(), stamps)
			}
			if r.Last() > w.now || above(w.now, r.Last(), age) {
				t.Fatalf("seed %d: %d is taken at %d", seed, r.Last(), w.now)
			}
			stamps = append(stamps, r.Last())
		}
	}
	if taken < 5000 {
		t.Error("too few were taken: ", taken)
	}
}

// P9.3: a telegram is taken at most once, whatever comes between and whatever the time is.
func TestAtMostOnce(t *testing.T) {
	for seed := range 100 {
		throws, s := dice(seed), link.NewSender(3)
		r, times, texts := link.NewReceiver(3, 5), map[string]int{}, []string{}
		for now := range 40 {
			text, _ := s.Send(now, "p")
			texts = append(texts, text)
			for range 6 {
				text := texts[throws.throw(len(texts))]
				if _, e := r.Take(now-throws.throw(3), text); e == api.OK {
					times[text]++
				}
			}
		}
		for _, text := range texts {
			if times[text] > 1 {
				t.Fatalf("seed %d: %x is taken %d times", seed, text, times[text])
			}
		}
		if len(times) < 5 {
			t.Fatalf("seed %d: only %d were taken", seed, len(times))
		}
	}
}

// P9.1: all rows of four telegrams with stamps and numbers from short lists, at all times of a short list.
func TestAllShortRows(t *testing.T) {
	t.Parallel()
	texts := []string{}
	for _, stamp := range []int{0, 1, 2} {
		for _, number := range []int{0, 2, 40000} {
			texts = append(texts, made(t, 3, number, stamp, "p"))
		}
	}
	texts = append(texts, made(t, 4, 1, 1, "p"))
	for row := range len(texts) * len(texts) * len(texts) * len(texts) {
		r, b := link.NewReceiver(3, 1), &book{peer: 3, age: 1}
		for i, rest := 0, row; i < 4; i, rest = i+1, rest/len(texts) {
			holds(t, r, b, []int{0, 1, 1, 2}[i], texts[rest%len(texts)])
		}
	}
}

// R4: the same row of calls gives the same answers.
func TestSameAgain(t *testing.T) {
	run := func() string {
		w, r, answers := newWorld(5, 0), link.NewReceiver(3, 2), ""
		for range 300 {
			w.pass()
			w.send()
			payload, e := r.Take(w.now, w.come())
			answers += fmt.Sprintln(w.now, payload, e, r.Last(), r.Alive(w.now), r.Lost())
		}
		return answers
	}
	if first, second := run(), run(); first != second {
		t.Errorf("first:\n%s\nthen:\n%s", first, second)
	}
}
