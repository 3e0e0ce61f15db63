package locks_test

import (
	"fmt"
	"strings"
	"testing"

	"ballast/api"
	"ballast/locks"
)

// saves holds what Save answers.
func saves(t *testing.T, name string, k api.Core, want string, wantErr api.Errno) {
	t.Helper()
	if got, e := locks.Save(k); got != want || e != wantErr {
		t.Errorf("%s: Save: % x, error %d; want % x, error %d", name, got, e, want, wantErr)
	}
}

// loads holds what Load answers.
func loads(t *testing.T, name string, c api.Config, now int, text string, want api.Core, wantErr api.Errno) {
	t.Helper()
	got, e := locks.Load(c, now, text)
	answers(t, name+": Load", got, e, want, wantErr)
}

// record is a state of the chapter's station in which every number that is saved has a value of its own, and its bytes.
func record() (api.Core, string) {
	return api.Core{
		Own:    []int{-2, -1, 0, 1, 2},
		Routes: []api.RouteState{{State: api.Open, Since: 77, Next: 2, Mark: 78}, {State: api.Ending, Since: 79, Next: 1, Mark: 80}},
		Points: []api.Mover{{}, {Cmd: 2, Other: 81}, {}, {}, {}},
		Lines: []api.LineState{
			{},
			{Ask: 1, Done: 256, Grant: 65536, Told: 82, Peer: api.Block{Ask: 83, Done: 84, Grant: 85}, Since: 86},
			{Ask: 1 << 24, Done: api.MaxTime, Grant: 0x01020304, Told: 87},
			{Ask: 5, Done: 6, Grant: 7},
		},
		Resets: []int{88, 89, 90, 91, 92},
		Dirty:  true,
	}, "\x00\x00" + "\x00\x01" + "\x00\x02" + "\x00\x03" + "\x00\x04" +
		"\x02\x02" + "\x04\x01" +
		"\x00\x00\x00\x01" + "\x00\x00\x01\x00" + "\x00\x01\x00\x00" +
		"\x01\x00\x00\x00" + "\xff\xff\xff\xff" + "\x01\x02\x03\x04" +
		"\x00\x00\x00\x05" + "\x00\x00\x00\x06" + "\x00\x00\x00\x07"
}

// P13.1: a state's bytes, one by one, and what they are loaded as.
func TestSaveAndLoad(t *testing.T) {
	c := station(t, chapter)
	k, text := record()
	if !locks.Fits(c, k) {
		t.Fatal("doesn't fit")
	}
	saves(t, "record", k, text, api.OK)
	for _, now := range rightTimes {
		loads(t, "record", c, now, text, api.Core{
			Own:    []int{-2, -1, 0, 1, 2},
			Routes: []api.RouteState{{State: api.Held, Next: 2}, {State: api.Held, Next: 1}},
			Points: []api.Mover{{}, {Other: now}, {}, {}, {}},
			Lines: []api.LineState{
				{},
				{Ask: 1, Done: 256, Grant: 65536, Told: 65536},
				{Ask: 1 << 24, Done: api.MaxTime, Grant: 0x01020304, Told: 0x01020304},
				{Ask: 5, Done: 6, Grant: 7, Told: 7},
			},
			Resets: make([]int, 5),
		}, api.OK)
	}
	for _, now := range wrongTimes {
		loads(t, "a wrong now", c, now, text, api.Core{}, api.ErrBytes)
	}
}

// P13.1: the first start's bytes; loaded again, the points have no command, the crossings are commanded to close, and nothing is to be recorded.
func TestSaveOfNew(t *testing.T) {
	c := station(t, fork)
	k := locks.New(c, 5)
	text := strings.Repeat("\x00\x01", 7) + strings.Repeat("\x00", 16+36)
	saves(t, "New", k, text, api.OK)
	want := locks.New(c, 900)
	want.Dirty = false
	loads(t, "New", c, 900, text, want, api.OK)
}

// P13.1: what an Idle route has left isn't loaded; of each other state it is Held, and nothing but its Next is kept.
func TestLoadOfRoutes(t *testing.T) {
	c := station(t, chapter)
	for state := api.Idle; state <= api.Held; state++ {
		for next := range 3 {
			k := locks.New(c, 0)
			k.Routes[0] = api.RouteState{State: state, Since: 5, Next: next, Mark: 6}
			text, e := locks.Save(k)
			if e != api.OK {
				t.Fatal(e)
			}
			want := locks.New(c, 33)
			want.Dirty = false
			if state != api.Idle {
				want.Routes[0] = api.RouteState{State: api.Held, Next: next}
			}
			loads(t, fmt.Sprint("state ", state, ", Next ", next), c, 33, text, want, api.OK)
		}
	}
}

// P13.1: Save looks at no configuration: lists of any length are written, the lines beyond MaxLines aren't; the line 0, and all that needn't last, may be anything.
func TestSaveOfAny(t *testing.T) {
	lines := strings.Repeat("\x00", 36)
	saves(t, "nothing", api.Core{Lines: make([]api.LineState, 4)}, lines, api.OK)
	saves(t, "more lines", api.Core{Lines: []api.LineState{{}, {}, {}, {}, {Ask: -1}, {Done: 5}}}, lines, api.OK)
	saves(t, "the bounds", api.Core{Own: []int{-2, 65533}, Routes: []api.RouteState{{State: 255, Next: 255}}, Lines: make([]api.LineState, 4)}, "\x00\x00\xff\xff"+"\xff\xff"+lines, api.OK)
	k := api.Core{
		Routes:    []api.RouteState{{State: 3, Since: -9, Next: 4, Mark: -10}},
		Points:    []api.Mover{{Cmd: -1, Other: -2}},
		Crossings: []api.Mover{{Cmd: 77, Other: 1 << 60}},
		Lines:     []api.LineState{{Ask: -1, Done: 1 << 40}, {Told: -1, Since: -1, Peer: api.Block{Ask: -1, Done: -1, Grant: -1}}, {}, {}},
		Resets:    []int{-1, 1 << 60},
	}
	saves(t, "what needn't last", k, "\x03\x04"+lines, api.OK)
	long := api.Core{Own: make([]int, 5000), Routes: make([]api.RouteState, 3000), Lines: make([]api.LineState, 4)}
	saves(t, "long lists", long, strings.Repeat("\x00\x02", 5000)+strings.Repeat("\x00", 6000)+lines, api.OK)
}

// P13.1: each number that is saved, at its bounds and beyond them.
func TestSaveOfEachNumber(t *testing.T) {
	k := api.Core{Own: make([]int, 2), Routes: make([]api.RouteState, 2), Lines: make([]api.LineState, 4)}
	list := []bound{{"Own 0", &k.Own[0], -2, 65533}, {"Own 1", &k.Own[1], -2, 65533}}
	for i := range k.Routes {
		list = append(list, bound{"State", &k.Routes[i].State, 0, 255}, bound{"Next", &k.Routes[i].Next, 0, 255})
	}
	for i := 1; i < 4; i++ {
		l := &k.Lines[i]
		list = append(list, bound{"Ask", &l.Ask, 0, api.MaxTime}, bound{"Done", &l.Done, 0, api.MaxTime}, bound{"Grant", &l.Grant, 0, api.MaxTime})
	}
	for _, b := range list {
		for _, n := range append([]int{b.least - 1, b.least, b.most, b.most + 1}, odd...) {
			*b.at = n
			text, e := locks.Save(k)
			right := n >= b.least && n <= b.most
			if right && (e != api.OK || len(text) != 44) || !right && (e != api.ErrField || text != "") {
				t.Errorf("%s as %d: % x, error %d", b.name, n, text, e)
			}
		}
		*b.at = 0
	}
}

// P13.1: fewer than MaxLines + 1 lines can't be saved.
func TestSaveOfFewLines(t *testing.T) {
	k, _ := record()
	for size := range 4 {
		saves(t, fmt.Sprint(size, " lines"), changed(k, func(k *api.Core) { k.Lines = k.Lines[:size] }), "", api.ErrField)
	}
	saves(t, "no lines", changed(k, func(k *api.Core) { k.Lines = nil }), "", api.ErrField)
	saves(t, "nothing at all", api.Core{}, "", api.ErrField)
}

// reading says another way what Load answers: number by number, out of the places where they stand.
func reading(c api.Config, now int, text string) (api.Core, api.Errno) {
	n, r := len(c.Sections), len(c.Routes)
	if len(text) != 2*n+2*r+36 {
		return api.Core{}, api.ErrBytes
	}
	at := func(place, width int) int {
		sum := 0
		for i := range width {
			sum = sum*256 + int(text[place+i])
		}
		return sum
	}
	k := locks.New(c, now)
	k.Dirty = false
	for i := range n {
		k.Own[i] = at(2*i, 2) - 2
		if k.Own[i] > r {
			return api.Core{}, api.ErrBytes
		}
	}
	for i := range r {
		state, next := at(2*n+2*i, 1), at(2*n+2*i+1, 1)
		if state > 5 || next > len(c.Routes[i].Path) {
			return api.Core{}, api.ErrBytes
		}
		if state > 0 {
			k.Routes[i] = api.RouteState{State: 5, Next: next}
		}
	}
	for i := 1; i < 4; i++ {
		place := 2*n + 2*r + 12*(i-1)
		k.Lines[i] = api.LineState{Ask: at(place, 4), Done: at(place+4, 4), Grant: at(place+8, 4), Told: at(place+8, 4)}
	}
	return k, api.OK
}

// saved are the texts of some states of the station: of the first one, of an empty one, and of thrown ones.
func saved(t *testing.T, c api.Config, thrownOnes int) []string {
	t.Helper()
	states := []api.Core{locks.New(c, 3), empty(c)}
	throws := dice(21)
	for range thrownOnes {
		states = append(states, thrown(&throws, c))
	}
	var texts []string
	for _, k := range states {
		text, e := locks.Save(k)
		if e != api.OK {
			t.Fatalf("error %d: %+v", e, k)
		}
		texts = append(texts, text)
	}
	return texts
}

// P13.1: texts with one byte changed to every other one: some are a state's, too, the others say nothing.
func TestLoadOfChangedBytes(t *testing.T) {
	for _, text := range []string{chapter, fork, single} {
		c := station(t, text)
		for _, text := range saved(t, c, 2) {
			for i := range len(text) {
				for b := range 256 {
					other := text[:i] + string([]byte{byte(b)}) + text[i+1:]
					want, e := reading(c, 44, other)
					loads(t, fmt.Sprintf("byte %d as %d", i, b), c, 44, other, want, e)
				}
			}
		}
	}
}

// P13.1: texts cut short, and with bytes behind them.
func TestLoadOfOtherLengths(t *testing.T) {
	for _, text := range stations() {
		c := station(t, text)
		for _, text := range saved(t, c, 5) {
			for size := range len(text) {
				loads(t, fmt.Sprint("the first ", size), c, 44, text[:size], api.Core{}, api.ErrBytes)
				loads(t, fmt.Sprint("without the first ", size+1), c, 44, text[size+1:], api.Core{}, api.ErrBytes)
			}
			for _, more := range []string{"\x00", "\x00\x00", "\xff", text} {
				loads(t, "with more behind", c, 44, text+more, api.Core{}, api.ErrBytes)
			}
		}
	}
}

// P13.1: texts of another station; of one with as many things, but other paths, they may be right.
func TestLoadOfOtherStations(t *testing.T) {
	all := append(stations(), strings.Replace(chapter, "route 0 1 0 path 1 0 1 2 0 1", "route 0 -1 0 path 1 0 2 3 0 1", 1), "section 0 0 0\nsection 0 0 0\nsection 0 0 0\nsection 0 0 0\nsection 0 0 0\n"+
		"joint 0 1 1 0\njoint 2 1 3 0\nsignal 0 1\nsignal 2 1\nroute 0 -1 0 path 1 0 1 flank overlap\nroute 1 -1 0 path 3 0 1 flank overlap\ntiming 1 0 2 1\n")
	found := map[api.Errno]int{}
	for i, one := range all {
		for j, other := range all {
			if i == j {
				continue
			}
			c := station(t, other)
			for _, text := range saved(t, station(t, one), 20) {
				want, e := reading(c, 44, text)
				loads(t, fmt.Sprintf("of station %d by station %d", i, j), c, 44, text, want, e)
				found[e]++
			}
		}
	}
	if found[api.OK] < 20 || found[api.ErrBytes] < 20 {
		t.Error("too few of a kind: ", found)
	}
}

// P13.4: of states that fit, thrown together: every section has the owner that it had, every route that was locked is Held, none is Open; the state fits, and its bytes are loaded as itself.
func TestLoadOfSave(t *testing.T) {
	for _, text := range stations() {
		c := station(t, text)
		throws := dice(5)
		for range 400 {
			k, now := thrown(&throws, c), throws.time()
			text, e := locks.Save(k)
			if e != api.OK {
				t.Fatalf("error %d: %+v", e, k)
			}
			got, e := locks.Load(c, now, text)
			want, _ := reading(c, now, text)
			answers(t, "Load of Save", got, e, want, api.OK)
			if !locks.Fits(c, got) {
				t.Fatalf("doesn't fit: %+v", got)
			}
			for i, owner := range got.Own {
				if owner != k.Own[i] {
					t.Errorf("section %d was %d's, is %d's", i, k.Own[i], owner)
				}
			}
			for r, s := range got.Routes {
				if (s.State == api.Held) != (k.Routes[r].State != api.Idle) || s.State != api.Held && s.State != api.Idle {
					t.Errorf("route %d was in state %d, is in %d", r, k.Routes[r].State, s.State)
				}
			}
			again, _ := locks.Save(got)
			loads(t, "again", c, now, again, got, api.OK)
		}
	}
}
