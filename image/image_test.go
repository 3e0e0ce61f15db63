package image_test

import (
	"math"
	"reflect"
	"slices"
	"strings"
	"testing"

	"ballast/api"
	"ballast/conf"
	"ballast/image"
	"ballast/link"
	"ballast/seal"
)

// station has sections of every kind with controllers 0, 1 and 2 (and none with 3), crossings and signals at each, at one that is another's and at none, in no order.
func station(age int) api.Config {
	return api.Config{
		Sections: []api.Section{
			{Kind: api.Plain, OC: 1}, {Kind: api.Point, OC: 0}, {Kind: api.Diamond, OC: 1}, {Kind: api.Point, OC: 1},
			{Kind: api.Plain, OC: 0, Line: 2}, {Kind: api.Point, OC: 2}, {Kind: api.Diamond, OC: 2}, {Kind: 7, OC: 0}, {Kind: api.Point, OC: 4}, {Kind: api.Plain, OC: -1},
		},
		Crossings: []int{5, 2, 10, 4, -1, 0, 9, math.MaxInt},
		Signals:   []api.Signal{{Section: 3}, {Section: 99}, {Section: 1, End: 2}, {Section: 6, End: 3}, {Section: 0, End: 1}, {Section: 8}, {Section: -1}, {Section: 1}, {Section: math.MinInt}},
		Timing:    api.Timing{Age: age},
	}
}

// Payloads that are right for the controllers of the station, and what is seen behind them, written by hand: the sections, points, crossings and signals of the controller 0 are 1 4 7, 1, 3, 2 7; those of 1 are 0 2 3, 3, 1 5, 0 4; those of 2 are 5 6, 5, 0, 3.
var said = [4]string{
	"\x01" + "\x00\x01\x00" + "\x02" + "\x01" + "\x01\x00",
	"\x01" + "\x01\x00\x00" + "\x01" + "\x00\x01" + "\x01\x01",
	"\x01" + "\x00\x01" + "\x00" + "\x01" + "\x00",
	"\x01",
}

// seen is what said tells of the station, by a stamp for each controller; -1: it says nothing.
func seen(at ...int) api.View {
	look := func(oc, value, worst int) api.Look {
		if at[oc] < 0 {
			return api.Look{Value: worst, Stamp: -1}
		}
		return api.Look{Value: value, Stamp: at[oc], Valid: true}
	}
	full, nowhere, open, bad := api.Look{Value: 1, Stamp: -1}, api.Look{Value: 0, Stamp: -1}, api.Look{Value: 0, Stamp: -1}, api.Look{Value: 0, Stamp: -1}
	return api.View{
		Occ:  []api.Look{look(1, 1, 1), look(0, 0, 1), look(1, 0, 1), look(1, 0, 1), look(0, 1, 1), look(2, 0, 1), look(2, 1, 1), look(0, 0, 1), full, full},
		Pos:  []api.Look{nowhere, look(0, 2, 0), nowhere, look(1, 1, 0), nowhere, look(2, 0, 0), nowhere, nowhere, nowhere, nowhere},
		Shut: []api.Look{look(2, 1, 0), look(1, 0, 0), open, look(0, 1, 0), open, look(1, 1, 0), open, open},
		Lamp: []api.Look{look(1, 1, 0), bad, look(0, 1, 0), look(2, 0, 0), look(1, 1, 0), bad, bad, look(0, 0, 0), bad},
	}
}

func sameView(a, b api.View) bool {
	return slices.Equal(a.Occ, b.Occ) && slices.Equal(a.Pos, b.Pos) && slices.Equal(a.Shut, b.Shut) && slices.Equal(a.Lamp, b.Lamp)
}

func made(t *testing.T, peer, number, stamp int, payload string) string {
	t.Helper()
	text, e := link.Make(peer, number, stamp, payload)
	if e != api.OK {
		t.Fatal("no telegram", peer, number, stamp, len(payload), e)
	}
	return text
}

func framed(t *testing.T, body string) string {
	t.Helper()
	text, e := seal.Seal(body)
	if e != api.OK {
		t.Fatal("no frame", len(body), e)
	}
	return text
}

// takes holds what one call of Take answers.
func takes(t *testing.T, m *image.Image, now, oc int, text string, want api.Errno) {
	t.Helper()
	if e := m.Take(now, oc, text); e != want {
		t.Errorf("Take at %d of %d, %d bytes: %d; want %d", now, oc, len(text), e, want)
	}
}

// views holds what View answers.
func views(t *testing.T, m *image.Image, now int, want api.View) {
	t.Helper()
	if got := m.View(now); !sameView(got, want) {
		t.Errorf("View at %d:\n%v; want\n%v", now, got, want)
	}
}

// alive holds what Alive answers of the controllers 0 to 3; those named are alive.
func alive(t *testing.T, m *image.Image, now int, which ...int) {
	t.Helper()
	for oc := range 4 {
		if m.Alive(now, oc) != slices.Contains(which, oc) {
			t.Errorf("controller %d at %d: alive %v", oc, now, m.Alive(now, oc))
		}
	}
}

func lost(t *testing.T, m *image.Image, want int) {
	t.Helper()
	if got := m.Lost(); got != want {
		t.Errorf("Lost: %d; want %d", got, want)
	}
}

// P11.1, the chapter's example.
func TestExample(t *testing.T) {
	c, e := conf.Read("section 0 0 0\ntiming 2 1 4 1000\n")
	if e != api.OK || conf.Check(c) != api.OK {
		t.Fatal("no right station", e)
	}
	m := image.New(c)
	takes(t, m, 5, 0, made(t, 0, 1, 5, "\x01\x00"), api.OK)
	good, bad := api.Look{Stamp: 5, Valid: true}, api.Look{Value: 1, Stamp: -1}
	nowhere := []api.Look{{Value: api.Nowhere, Stamp: -1}}
	views(t, m, 7, api.View{Occ: []api.Look{good}, Pos: nowhere})
	views(t, m, 8, api.View{Occ: []api.Look{bad}, Pos: nowhere})
}

// P11.1: ahead of the first telegram all is the worst, nobody is alive and nothing lost, at any time.
func TestNothingTold(t *testing.T) {
	for _, age := range []int{math.MinInt, -2, -1, 0, 1, 8, math.MaxInt - 1, math.MaxInt} {
		m := image.New(station(age))
		for _, now := range []int{math.MinInt, -2, -1, 0, 1, 8, api.MaxTime, math.MaxInt} {
			views(t, m, now, seen(-1, -1, -1, -1))
			alive(t, m, now)
			lost(t, m, 0)
		}
	}
}

// P11.1: what is told of sections of every kind, of crossings and signals, is seen by their numbers; of those that are no Point, or whose section or controller is none, the worst.
func TestElements(t *testing.T) {
	m := image.New(station(4))
	takes(t, m, 10, 0, made(t, 0, 1, 7, said[0]), api.OK)
	takes(t, m, 10, 1, made(t, 1, 1, 8, said[1]), api.OK)
	takes(t, m, 10, 2, made(t, 2, 1, 9, said[2]), api.OK)
	takes(t, m, 10, 3, made(t, 3, 1, 10, said[3]), api.OK)
	views(t, m, 10, seen(7, 8, 9, 10))
	alive(t, m, 10, 0, 1, 2, 3)
	lost(t, m, 0)
}

// P11.1: each value that a status may have is seen as it was told.
func TestValues(t *testing.T) {
	c := api.Config{Sections: []api.Section{{Kind: api.Point}}, Crossings: []int{0}, Signals: []api.Signal{{}}, Timing: api.Timing{Age: 1}}
	m := image.New(c)
	one := func(value, stamp int) []api.Look {
		return []api.Look{{Value: value, Stamp: stamp, Valid: true}}
	}
	for i := range 24 {
		occ, pos, shut, lamp := i%2, i/2%3, i/6%2, i/12
		takes(t, m, i, 0, made(t, 0, i, i, string([]byte{1, byte(occ), byte(pos), byte(shut), byte(lamp)})), api.OK)
		views(t, m, i, api.View{Occ: one(occ, i), Pos: one(pos, i), Shut: one(shut, i), Lamp: one(lamp, i)})
	}
}

// P11.1, P11.2: a look counts from the stamp on, till it is just as old as the age; one tick beyond, and ahead of the stamp, all are the worst.
func TestFreshness(t *testing.T) {
	for _, age := range []int{0, 1, 2, api.MaxAge, 40} {
		for _, stamp := range []int{0, 1, 50, api.MaxTime - 1, api.MaxTime} {
			for late := range age + 1 {
				m := image.New(station(age))
				takes(t, m, stamp+late, 1, made(t, 1, 3, stamp, said[1]), api.OK)
				for _, now := range []int{stamp, stamp + age, stamp + age/2, stamp + late} {
					views(t, m, now, seen(-1, stamp, -1, -1))
					alive(t, m, now, 1)
				}
				for _, now := range []int{stamp - 1, stamp + age + 1, math.MinInt, math.MinInt + api.MaxTime, stamp - age - 1, -1, stamp + age + 2, stamp + 1<<32, math.MaxInt} {
					views(t, m, now, seen(-1, -1, -1, -1))
					alive(t, m, now)
				}
				views(t, m, stamp, seen(-1, stamp, -1, -1))
			}
		}
	}
}

// P11.1: an age that no timing has: below 0 nothing is taken; the greatest lets all that was told count for good.
func TestOddAges(t *testing.T) {
	for _, age := range []int{math.MinInt, math.MinInt + 1, -2, -1} {
		m := image.New(station(age))
		takes(t, m, 5, 0, made(t, 0, 1, 5, said[0]), api.ErrOld)
		takes(t, m, 5, 0, made(t, 0, 1, 6, said[0]), api.ErrFuture)
		for _, now := range []int{math.MinInt, 4, 5, 6, math.MaxInt} {
			views(t, m, now, seen(-1, -1, -1, -1))
			alive(t, m, now)
		}
	}
	for _, stamp := range []int{0, 1, 7, api.MaxTime} {
		for _, age := range []int{math.MaxInt - api.MaxTime, math.MaxInt - 1, math.MaxInt} {
			m := image.New(station(age))
			takes(t, m, stamp, 0, made(t, 0, 1, stamp, said[0]), api.OK)
			for _, now := range []int{stamp, stamp + 1, api.MaxTime, math.MaxInt - api.MaxTime} {
				views(t, m, now, seen(stamp, -1, -1, -1))
				alive(t, m, now, 0)
			}
			for _, now := range []int{stamp - 1, -1, math.MinInt, math.MinInt + api.MaxTime} {
				views(t, m, now, seen(-1, -1, -1, -1))
				alive(t, m, now)
			}
		}
		m := image.New(station(math.MaxInt))
		takes(t, m, math.MaxInt, 0, made(t, 0, 1, stamp, said[0]), api.OK)
		views(t, m, math.MaxInt, seen(stamp, -1, -1, -1))
		alive(t, m, math.MaxInt, 0)
	}
}

// P11.1: numbers that are no controller's are refused ahead of all else, change nothing, and are never alive; those from 0 to 3 are taken, with elements or without.
func TestControllers(t *testing.T) {
	m := image.New(station(3))
	for oc := range 4 {
		takes(t, m, 5, oc, made(t, oc, 1, 5, said[oc]), api.OK)
	}
	for _, oc := range odd {
		texts := []string{"", "x", made(t, oc&255, 9, 6, said[oc&3]), made(t, oc&3, 9, 6, said[oc&3]), made(t, 0, 9, 1, said[0]), made(t, 0, 9, 60, "")}
		for _, text := range texts {
			takes(t, m, 6, oc, text, api.ErrIndex)
		}
		for now := 4; now < 10; now++ {
			if m.Alive(now, oc) {
				t.Errorf("controller %d: alive at %d", oc, now)
			}
		}
	}
	views(t, m, 6, seen(5, 5, 5, 5))
	alive(t, m, 6, 0, 1, 2, 3)
	lost(t, m, 0)
	for oc := range 4 {
		takes(t, m, 6, oc, made(t, oc, 2, 6, said[oc]), api.OK)
	}
}

// refusals are the texts that a receiver refuses at 20 behind a telegram of the controller oc with the stamp 19, when the age is 3.
func refusals(t *testing.T, oc int, payload string) map[string]struct {
	text string
	want api.Errno
} {
	good := made(t, oc, 900, 20, payload)
	spoilt := []byte(good)
	spoilt[len(spoilt)/2] ^= 1
	head := string([]byte{byte(oc), 3, 132, 0, 0, 0, 20})
	return map[string]struct {
		text string
		want api.Errno
	}{
		"empty":               {"", api.ErrShort},
		"of five bytes":       {good[:5], api.ErrShort},
		"a byte short":        {good[:len(good)-1], api.ErrShort},
		"a body above 1024":   {"\x04\x01" + strings.Repeat("x", 1029), api.ErrLong},
		"a payload of 1001":   {framed(t, head+strings.Repeat("\x01", 1001)), api.ErrLong},
		"a byte more":         {good + "\x00", api.ErrBytes},
		"a body of six bytes": {framed(t, head[:6]), api.ErrBytes},
		"spoilt":              {string(spoilt), api.ErrSum},
		"of the next peer":    {made(t, (oc+1)%4, 900, 20, payload), api.ErrPeer},
		"of the way back":     {made(t, oc+50, 900, 20, payload), api.ErrPeer},
		"of a later time":     {made(t, oc, 900, 21, payload), api.ErrFuture},
		"of the last time":    {made(t, oc, 900, api.MaxTime, payload), api.ErrFuture},
		"too old":             {made(t, oc, 900, 16, payload), api.ErrOld},
		"of the first time":   {made(t, oc, 900, 0, payload), api.ErrOld},
		"the same one":        {made(t, oc, 5, 19, payload), api.ErrAgain},
		"an earlier one":      {made(t, oc, 900, 18, payload), api.ErrAgain},
	}
}

// P11.1: a receiver's errors are handed on, and change nothing of what is seen, alive and lost; of each controller, whose other ones go on.
func TestRefused(t *testing.T) {
	for oc := range 4 {
		for name, c := range refusals(t, oc, said[oc]) {
			m := image.New(station(3))
			for other := range 4 {
				takes(t, m, 19, other, made(t, other, 5, 19, said[other]), api.OK)
			}
			for range 2 {
				if e := m.Take(20, oc, c.text); e != c.want {
					t.Errorf("controller %d, %s: %d; want %d", oc, name, e, c.want)
				}
				views(t, m, 20, seen(19, 19, 19, 19))
				alive(t, m, 22, 0, 1, 2, 3)
				alive(t, m, 23)
				lost(t, m, 0)
			}
			takes(t, m, 20, oc, made(t, oc, 6, 20, said[oc]), api.OK)
			lost(t, m, 0)
		}
	}
}

// P11.1: a telegram that is refused ahead of the first right one counts as nothing, too: the number that it has isn't the first.
func TestRefusedFirst(t *testing.T) {
	for oc := range 4 {
		m := image.New(station(3))
		for name, c := range refusals(t, oc, said[oc]) {
			if c.want != api.ErrAgain && m.Take(20, oc, c.text) != c.want {
				t.Errorf("controller %d, %s: not %d", oc, name, c.want)
			}
		}
		views(t, m, 20, seen(-1, -1, -1, -1))
		alive(t, m, 20)
		takes(t, m, 20, oc, made(t, oc, 5, 17, said[oc]), api.OK)
		alive(t, m, 20, oc)
		lost(t, m, 0)
	}
}

// strange are payloads that are no right status of the station's controller 0, though some are of another one's.
func strange() []string {
	right := said[0]
	list := []string{"", "\x00", "\x01", right[:len(right)-1], right + "\x00", right + right, said[1], said[2], said[3], "\x02" + right[1:], "\x00" + right[1:], "\x03" + right[1:], "\x02\x02\x00\x00\x00", "\x03" + strings.Repeat("\x00", 12), strings.Repeat("\x01", 1000)}
	for i := range len(right) {
		greatest := byte(1)
		if i == 4 {
			greatest = api.Reverse
		}
		for _, value := range []byte{greatest + 1, 128, 255} {
			list = append(list, right[:i]+string([]byte{value})+right[i+1:])
		}
	}
	return list
}

// P11.1: a telegram with no right status is ErrBytes; it counts as taken, but what was said last stays, with its stamp.
func TestStrange(t *testing.T) {
	for _, payload := range strange() {
		m := image.New(station(3))
		takes(t, m, 5, 0, made(t, 0, 5, 5, said[0]), api.OK)
		takes(t, m, 6, 1, made(t, 1, 5, 6, said[1]), api.OK)
		takes(t, m, 7, 0, made(t, 0, 8, 7, payload), api.ErrBytes)
		lost(t, m, 2)
		for _, stamp := range []int{5, 6, 7} {
			takes(t, m, 8, 0, made(t, 0, 20, stamp, said[0]), api.ErrAgain)
		}
		views(t, m, 8, seen(5, 6, -1, -1))
		alive(t, m, 8, 0, 1)
		views(t, m, 9, seen(-1, 6, -1, -1))
		alive(t, m, 9, 1)
		takes(t, m, 9, 0, made(t, 0, 10, 8, said[0]), api.OK)
		lost(t, m, 3)
		views(t, m, 9, seen(8, 6, -1, -1))
		alive(t, m, 11, 0)
	}
}

// P11.1: a controller that said nothing right isn't alive, and its elements are the worst, however much it says.
func TestStrangeAlone(t *testing.T) {
	m := image.New(station(3))
	for i, payload := range strange() {
		takes(t, m, i, 0, made(t, 0, 2*i, i, payload), api.ErrBytes)
		views(t, m, i, seen(-1, -1, -1, -1))
		alive(t, m, i)
		lost(t, m, i)
	}
}

// P11.1: a controller that has no elements tells the one right status, and is alive by it.
func TestNoElements(t *testing.T) {
	m := image.New(station(3))
	takes(t, m, 5, 3, made(t, 3, 1, 5, "\x01\x00"), api.ErrBytes)
	alive(t, m, 5)
	takes(t, m, 6, 3, made(t, 3, 2, 6, "\x01"), api.OK)
	alive(t, m, 9, 3)
	alive(t, m, 10)
	views(t, m, 6, seen(-1, -1, -1, 6))
}

// P11.1, P11.2: controllers that say nothing any more, or never did, are the worst beside those that go on.
func TestSilent(t *testing.T) {
	m, senders := image.New(station(2)), []*link.Sender{link.NewSender(0), link.NewSender(1), link.NewSender(2)}
	last := []int{-1, -1, -1, -1}
	until := []int{30, 9, 20}
	for now := 1; now < 40; now++ {
		for oc, s := range senders {
			if text, e := s.Send(now, said[oc]); e != api.OK {
				t.Fatal(e)
			} else if now <= until[oc] && now > 5*oc {
				takes(t, m, now, oc, text, api.OK)
				last[oc] = now
			}
		}
		stamps, which := slices.Clone(last), []int{}
		for oc := range stamps {
			if stamps[oc] >= 0 && now <= stamps[oc]+2 {
				which = append(which, oc)
			} else {
				stamps[oc] = -1
			}
		}
		views(t, m, now, seen(stamps...))
		alive(t, m, now, which...)
	}
	lost(t, m, 0)
}

// P11.1: what was said last is seen, not what was said before, and in the order of the stamps.
func TestLast(t *testing.T) {
	m := image.New(station(4))
	other := "\x01" + "\x01\x00\x01" + "\x01" + "\x00" + "\x00\x01"
	takes(t, m, 9, 0, made(t, 0, 1, 6, other), api.OK)
	takes(t, m, 9, 0, made(t, 0, 3, 8, said[0]), api.OK)
	takes(t, m, 9, 0, made(t, 0, 2, 7, other), api.ErrAgain)
	views(t, m, 9, seen(8, -1, -1, -1))
	views(t, m, 7, seen(-1, -1, -1, -1))
	alive(t, m, 7)
	views(t, m, 12, seen(8, -1, -1, -1))
	lost(t, m, 1)
}

// P11.1: lost telegrams are counted by each controller's own numbers, all together; those that say nothing right count as taken, those that are refused don't.
func TestLost(t *testing.T) {
	m := image.New(station(3))
	for _, c := range []struct {
		now, oc, number, stamp int
		payload                string
		want                   api.Errno
		lost                   int
	}{
		{1, 0, 7, 1, said[0], api.OK, 0}, {2, 0, 8, 2, said[0], api.OK, 0}, {3, 0, 12, 3, said[0], api.OK, 3},
		{3, 1, 60000, 3, said[1], api.OK, 3}, {3, 2, 1, 3, said[2], api.OK, 3}, {3, 3, 65534, 3, said[3], api.OK, 3},
		{4, 1, 60002, 4, said[1], api.OK, 4}, {4, 3, 1, 4, said[3], api.OK, 6}, {4, 2, 2, 4, said[2], api.OK, 6},
		{4, 0, 20, 3, said[0], api.ErrAgain, 6}, {4, 0, 20, 5, said[0], api.ErrFuture, 6}, {4, 0, 20, 0, said[0], api.ErrOld, 6}, {4, 0, 20, 4, said[1], api.ErrBytes, 13},
		{4, 4, 90, 4, said[0], api.ErrIndex, 13}, {4, -1, 90, 4, said[0], api.ErrIndex, 13},
		{5, 1, 60001, 5, said[1], api.OK, 13}, {5, 2, 102, 5, said[2], api.OK, 112}, {5, 3, 1, 5, said[3], api.OK, 112}, {5, 0, 19, 5, said[0], api.OK, 112}, {6, 0, 21, 6, said[0], api.OK, 112},
		{6, 1, 60003, 6, said[1], api.OK, 112}, {90, 2, 104, 90, said[2], api.OK, 113}, {90, 3, 1, 90, said[3], api.OK, 113},
	} {
		peer := max(0, c.oc)
		takes(t, m, c.now, c.oc, made(t, peer, c.number, c.stamp, c.payload), c.want)
		lost(t, m, c.lost)
	}
}

// P11.1: configurations that lack things, and one whose controller has more elements than a payload has bytes.
func TestConfigurations(t *testing.T) {
	m := image.New(api.Config{})
	takes(t, m, 0, 2, made(t, 2, 1, 0, "\x01"), api.OK)
	views(t, m, 0, api.View{})
	alive(t, m, 0, 2)
	c := api.Config{Crossings: []int{0, -1}, Signals: []api.Signal{{}, {Section: 1}, {Section: -1}}}
	m = image.New(c)
	takes(t, m, 0, 0, made(t, 0, 1, 0, "\x01"), api.OK)
	bad := api.Look{Stamp: -1}
	views(t, m, 0, api.View{Shut: []api.Look{bad, bad}, Lamp: []api.Look{bad, bad, bad}})
	c = api.Config{Sections: make([]api.Section, 2000)}
	c.Sections[1999].OC = 1
	m = image.New(c)
	takes(t, m, 0, 0, made(t, 0, 1, 0, "\x01"+strings.Repeat("\x00", 999)), api.ErrBytes)
	takes(t, m, 0, 1, made(t, 1, 1, 0, "\x01\x00"), api.OK)
	v := m.View(0)
	if v.Occ[1999] != (api.Look{Valid: true}) || v.Occ[0] != (api.Look{Value: 1, Stamp: -1}) || len(v.Occ) != 2000 || len(v.Pos) != 2000 {
		t.Error("2000 sections: ", len(v.Occ), v.Occ[1999], v.Occ[0])
	}
}

// R5: New changes nothing of the configuration and keeps nothing of it.
func TestConfigurationMemory(t *testing.T) {
	c := station(3)
	m := image.New(c)
	if !reflect.DeepEqual(c, station(3)) {
		t.Error("changed: ", c)
	}
	for i := range c.Sections {
		c.Sections[i] = api.Section{Kind: api.Point, OC: 3}
	}
	for i := range c.Crossings {
		c.Crossings[i] = 0
	}
	for i := range c.Signals {
		c.Signals[i] = api.Signal{}
	}
	for oc := range 4 {
		takes(t, m, 5, oc, made(t, oc, 1, 5, said[oc]), api.OK)
	}
	views(t, m, 5, seen(5, 5, 5, 5))
}

// R4, R5: View answers new memory each time, whose lists share none, and changes nothing.
func TestViewMemory(t *testing.T) {
	m := image.New(station(3))
	takes(t, m, 5, 1, made(t, 1, 1, 5, said[1]), api.OK)
	for _, now := range []int{5, 9} {
		want := m.View(now)
		a, b := m.View(now), m.View(now)
		lists := [][]api.Look{a.Occ, a.Pos, a.Shut, a.Lamp, b.Occ, b.Pos, b.Shut, b.Lamp}
		for i, list := range lists {
			for k := range list[:cap(list)] {
				list[:cap(list)][k].Value = 1000 + i
			}
		}
		for i, list := range lists {
			for _, look := range list[:cap(list)] {
				if look.Value != 1000+i {
					t.Fatalf("the lists %d and %d share memory", i, look.Value-1000)
				}
			}
		}
		views(t, m, now, want)
	}
}

// R6: two images have nothing to do with one another.
func TestApart(t *testing.T) {
	a, b := image.New(station(3)), image.New(station(3))
	text := made(t, 0, 1, 5, said[0])
	takes(t, a, 5, 0, text, api.OK)
	takes(t, a, 6, 0, made(t, 0, 4, 6, said[0]), api.OK)
	views(t, b, 6, seen(-1, -1, -1, -1))
	alive(t, b, 6)
	lost(t, b, 0)
	takes(t, b, 5, 0, text, api.OK)
	views(t, b, 5, seen(5, -1, -1, -1))
	views(t, a, 6, seen(6, -1, -1, -1))
	lost(t, a, 2)
}
