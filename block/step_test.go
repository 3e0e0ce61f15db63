package block_test

import (
	"fmt"
	"math"
	"testing"

	"ballast/api"
	"ballast/locks"
)

// about are the number itself and its neighbours, as far as they are 0 to most.
func about(n, most int) []int {
	var list []int
	for _, m := range []int{n - 1, n, n + 1} {
		if m >= 0 && m <= most {
			list = append(list, m)
		}
	}
	return list
}

// looksAbout are looks of a section, clear ones and others, about this stamp.
func looksAbout(stamp int) []api.Look {
	var list []api.Look
	for _, s := range []int{stamp - 1, stamp, stamp + 1, 0, -1, math.MinInt, math.MaxInt} {
		list = append(list, api.Look{Stamp: s, Valid: true})
	}
	return append(list, api.Look{Stamp: stamp + 5}, api.Look{Value: 1, Stamp: stamp + 5, Valid: true}, api.Look{Value: -1, Stamp: stamp + 5, Valid: true}, api.Look{Value: 1 << 32, Stamp: stamp + 5, Valid: true})
}

// P15.1: a section that is Inbound: Peer.Done below Grant, at it and above it; Since at 0 and set; each look about Since; each now; recorded and not.
func TestInbound(t *testing.T) {
	c := station(t, chapter)
	for _, grant := range []int{0, 1, 5, api.MaxTime} {
		for _, done := range about(grant, api.MaxTime) {
			for _, since := range []int{0, 1, 2, 21, api.MaxTime, api.MaxTime + 1} {
				for _, look := range looksAbout(since) {
					for _, now := range rightTimes {
						for _, dirty := range []bool{false, true} {
							k := empty(c)
							k.Own[4], k.Dirty = api.Inbound, dirty
							k.Lines[1] = api.LineState{Grant: grant, Told: 9, Peer: api.Block{Done: done}, Since: since}
							v := seen(worst(c), func(v *api.View) { v.Occ[4] = look })
							steps(t, fmt.Sprintf("%+v, dirty %v, look %v, at %d", k.Lines[1], dirty, look, now), c, k, v, now, func(k *api.Core) {
								l := &k.Lines[1]
								if !dirty {
									l.Told = grant
								}
								switch {
								case done < grant:
									l.Since = 0
								case since == 0:
									l.Since = now + 1
								case look.Valid && look.Value == 0 && look.Stamp >= since:
									k.Own[4], l.Since, k.Dirty = api.Free, 0, true
								}
							})
						}
					}
				}
			}
		}
	}
}

// P15.1: of a section that is Inbound nothing else plays a part: what is asked on either side, what else the neighbour granted, what was told, the routes, other sections.
func TestInboundAlone(t *testing.T) {
	c := station(t, delta)
	k := empty(c)
	k.Own[2] = api.Inbound
	k.Lines[1] = api.LineState{Grant: 4, Told: 4, Peer: api.Block{Done: 4}, Since: 12}
	v := seen(worst(c), func(v *api.View) { v.Occ[2] = api.Look{Stamp: 12, Valid: true} })
	for name, do := range map[string]func(k *api.Core){
		"nothing":        func(k *api.Core) {},
		"asked again":    func(k *api.Core) { k.Lines[1].Peer.Ask = 5 },
		"asked far":      func(k *api.Core) { k.Lines[1].Peer.Ask = api.MaxTime },
		"granted":        func(k *api.Core) { k.Lines[1].Peer.Grant = 3 },
		"asked here":     func(k *api.Core) { k.Lines[1].Ask = 2 },
		"done here":      func(k *api.Core) { k.Lines[1].Ask, k.Lines[1].Done = 2, 2 },
		"an approach":    func(k *api.Core) { k.Routes[2].State = api.Open },
		"a reset":        func(k *api.Core) { k.Resets[2] = 5 },
		"another's line": func(k *api.Core) { k.Lines[2], k.Lines[3].Ask = api.LineState{Grant: 9}, 7 },
	} {
		k := changed(k, do)
		steps(t, name, c, k, v, 20, func(k *api.Core) {
			k.Own[2], k.Lines[1].Since, k.Dirty = api.Free, 0, true
			k.Lines[2].Told, k.Lines[3].Told = k.Lines[2].Grant, k.Lines[3].Grant
		})
	}
}

// P15.1: a section that is Free: Peer.Ask about Grant, and about Peer.Done, up to MaxTime; the line's Ask at its Done, below and above it. Neither its look nor now plays a part, nor what the neighbour granted.
func TestFree(t *testing.T) {
	c := station(t, chapter)
	for _, grant := range []int{0, 1, 7, api.MaxTime - 1, api.MaxTime} {
		for _, asked := range about(grant, api.MaxTime) {
			for _, done := range append(about(asked, api.MaxTime), 0, api.MaxTime) {
				for _, own := range [][2]int{{0, 0}, {3, 3}, {4, 3}, {3, 4}, {1, 0}, {api.MaxTime, api.MaxTime}, {api.MaxTime, 0}} {
					for _, dirty := range []bool{false, true} {
						for _, since := range []int{0, 14} {
							k := empty(c)
							k.Dirty = dirty
							k.Lines[1] = api.LineState{Ask: own[0], Done: own[1], Grant: grant, Told: 2, Peer: api.Block{Ask: asked, Done: done, Grant: own[0]}, Since: since}
							for _, v := range []api.View{worst(c), calm(c, k, 50)} {
								steps(t, fmt.Sprintf("%+v, dirty %v", k.Lines[1], dirty), c, k, v, 20, func(k *api.Core) {
									l := &k.Lines[1]
									if !dirty {
										l.Told = grant
									}
									if asked > grant && asked > done && own[0] == own[1] {
										k.Own[4], l.Grant, l.Since, k.Dirty = api.Inbound, asked, 0, true
									}
								})
							}
						}
					}
				}
			}
		}
	}
}

// P15.1: a section isn't granted while it is the approach of a route that is locked, in whichever state; other routes play no part, also those out on its line.
func TestApproaches(t *testing.T) {
	c := station(t, delta)
	approaches := []int{0, 0, 2, 3}
	for r := range c.Routes {
		for state := api.Idle; state <= api.Held; state++ {
			for line := 1; line <= api.MaxLines; line++ {
				k := empty(c)
				k.Routes[r].State = state
				k.Lines[line].Peer.Ask = 1
				section := sectionOf(c, line)
				steps(t, fmt.Sprintf("line %d, route %d in state %d", line, r, state), c, k, worst(c), 20, func(k *api.Core) {
					if state == api.Idle || approaches[r] != section {
						k.Own[section], k.Lines[line].Grant, k.Dirty = api.Inbound, 1, true
					}
				})
			}
		}
	}
	// Two routes have this approach: each of them alone keeps it.
	for first := api.Idle; first <= api.Set; first++ {
		for second := api.Idle; second <= api.Set; second++ {
			k := empty(c)
			k.Routes[0].State, k.Routes[1].State = first, second
			k.Lines[3].Peer.Ask = 1
			steps(t, fmt.Sprint("routes 0 and 1 in ", first, second), c, k, worst(c), 20, func(k *api.Core) {
				if first == api.Idle && second == api.Idle {
					k.Own[0], k.Lines[3].Grant, k.Dirty = api.Inbound, 1, true
				}
			})
		}
	}
}

// P15.1: a section of any other owner stays as it is, whatever was asked and done, and so do its line's numbers but Told.
func TestOtherOwners(t *testing.T) {
	c := station(t, delta)
	for owner := api.Cold; owner <= len(c.Routes); owner++ {
		if owner == api.Free {
			continue
		}
		for _, peer := range []api.Block{{}, {Ask: 5}, {Ask: 5, Done: 5}, {Ask: 6, Done: 2}, {Done: api.MaxTime}} {
			for _, since := range []int{0, 3} {
				k := empty(c)
				k.Own[2] = owner
				k.Lines[1] = api.LineState{Grant: 2, Told: 1, Peer: peer, Since: since}
				for _, v := range []api.View{worst(c), calm(c, k, 50)} {
					steps(t, fmt.Sprintf("owner %d, %v", owner, k.Lines[1]), c, k, v, 20, func(k *api.Core) { k.Lines[1].Told = 2 })
				}
			}
		}
	}
}

// P15.1: a section that goes Free in a Step isn't granted in the same one, but in the next, recorded meanwhile or not.
func TestFreedThenGranted(t *testing.T) {
	c := station(t, chapter)
	for _, dirty := range []bool{false, true} {
		k := empty(c)
		k.Own[4] = api.Inbound
		k.Lines[1] = api.LineState{Grant: 1, Told: 1, Peer: api.Block{Ask: 2, Done: 1}, Since: 11}
		k = steps(t, "freed", c, k, calm(c, k, 12), 12, func(k *api.Core) {
			k.Own[4], k.Lines[1].Since, k.Dirty = api.Free, 0, true
		})
		k.Dirty = dirty
		k = steps(t, "granted", c, k, calm(c, k, 13), 13, func(k *api.Core) {
			k.Own[4], k.Lines[1].Grant, k.Dirty = api.Inbound, 2, true
		})
		steps(t, "not recorded", c, k, calm(c, k, 14), 14, stays)
		k.Dirty = false
		steps(t, "recorded", c, k, calm(c, k, 14), 14, func(k *api.Core) { k.Lines[1].Told = 2 })
	}
}

// P15.1: Since begins anew when the neighbour isn't done any more, as behind another telegram it may be.
func TestDoneAgain(t *testing.T) {
	c := station(t, chapter)
	k := empty(c)
	k.Own[4], k.Lines[1].Grant, k.Lines[1].Told = api.Inbound, 2, 2
	for i, done := range []int{2, 1, 3, 0, 2} {
		now := 30 + 3*i
		k = hears(t, "hears", c, k, 1, api.Block{Ask: 2, Done: done})
		k = steps(t, fmt.Sprint("done ", done), c, k, calm(c, k, now), now, func(k *api.Core) {
			k.Lines[1].Since = 0
			if done >= 2 {
				k.Lines[1].Since = now + 1
			}
		})
	}
	k = steps(t, "too early", c, k, calm(c, k, 42), 43, stays)
	steps(t, "seen behind", c, k, calm(c, k, 43), 43, func(k *api.Core) {
		k.Own[4], k.Lines[1].Since, k.Dirty = api.Free, 0, true
	})
}

// P15.1: the three lines of a station in one Step, each by its own section and its own numbers; Told of all by the Dirty that was handed in, though the lines ahead of it make the state Dirty.
func TestSeveralLines(t *testing.T) {
	c := station(t, delta)
	k := empty(c)
	k.Own = []int{api.Inbound, api.Cold, api.Free, api.Inbound}
	k.Lines = []api.LineState{{}, {Ask: 8, Done: 8, Grant: 1, Peer: api.Block{Ask: 5, Done: 1}}, {Grant: 2, Told: 1, Peer: api.Block{Done: 2}, Since: 30}, {Grant: 3, Told: 4, Peer: api.Block{Done: 3}}}
	for _, dirty := range []bool{false, true} {
		k.Dirty = dirty
		steps(t, fmt.Sprint("dirty ", dirty), c, k, calm(c, k, 40), 40, func(k *api.Core) {
			k.Own = []int{api.Inbound, api.Cold, api.Inbound, api.Free}
			k.Lines[1].Grant, k.Lines[2].Since, k.Lines[3].Since, k.Dirty = 5, 0, 41, true
			if !dirty {
				k.Lines[1].Told, k.Lines[2].Told, k.Lines[3].Told = 1, 2, 3
			}
		})
	}
}

// P15.1: lines that no section has stay as they are, Told too, whatever the neighbour told; and so does the number 0.
func TestLinesOfNoSection(t *testing.T) {
	for _, text := range stations() {
		c := station(t, text)
		for _, owner := range []int{api.Free, api.Inbound} {
			for _, dirty := range []bool{false, true} {
				k := numbered(empty(c), 4)
				k.Dirty = dirty
				for i := range k.Own {
					k.Own[i] = owner
				}
				// Those that have one: not asked, not done.
				for line := range 4 {
					if sectionOf(c, line) >= 0 {
						k.Lines[line] = api.LineState{Grant: 3, Told: 2, Peer: api.Block{Ask: 3}}
					}
				}
				steps(t, fmt.Sprintf("owner %d, dirty %v", owner, dirty), c, k, calm(c, k, 999), 999, func(k *api.Core) {
					for line := range 4 {
						if sectionOf(c, line) >= 0 && !dirty {
							k.Lines[line].Told = 3
						}
					}
				})
			}
		}
	}
}

// P15.1: what changes no owner leaves Dirty as it is: Since that begins or ends, Told, nothing at all; what does sets it.
func TestDirty(t *testing.T) {
	c := station(t, chapter)
	for name, line := range map[string]api.LineState{
		"Since begins": {Grant: 2, Told: 2, Peer: api.Block{Done: 2}},
		"Since ends":   {Grant: 2, Told: 2, Since: 5},
		"Told":         {Grant: 2, Told: 1},
		"nothing":      {Grant: 2, Told: 2},
	} {
		k := empty(c)
		k.Own[4], k.Lines[1] = api.Inbound, line
		steps(t, name, c, k, calm(c, k, 40), 40, func(k *api.Core) {
			k.Lines[1].Told = 2
			k.Lines[1].Since = 0
			if name == "Since begins" {
				k.Lines[1].Since = 41
			}
		})
	}
}

// The first start: all is Cold, and a section that is reset may be granted from then on.
func TestFromNew(t *testing.T) {
	c := station(t, delta)
	k := hears(t, "asked", c, locks.New(c, 0), 2, api.Block{Ask: 1})
	k = steps(t, "Cold", c, k, calm(c, k, 5), 5, stays)
	k.Own[3], k.Dirty = api.Free, false
	k = steps(t, "Free", c, k, calm(c, k, 6), 6, func(k *api.Core) { k.Own[3], k.Lines[2].Grant, k.Dirty = api.Inbound, 1, true })
	text, e := locks.Save(k)
	if e != api.OK {
		t.Fatal(e)
	}
	// Behind a loss of power what was recorded is told, and the neighbour is heard anew.
	if k, e = locks.Load(c, 20, text); e != api.OK {
		t.Fatal(e)
	}
	k = steps(t, "loaded", c, k, calm(c, k, 21), 21, stays)
	k = hears(t, "done", c, k, 2, api.Block{Ask: 1, Done: 1})
	k = steps(t, "done", c, k, calm(c, k, 22), 22, func(k *api.Core) { k.Lines[2].Since = 23 })
	steps(t, "left", c, k, calm(c, k, 23), 23, func(k *api.Core) { k.Own[3], k.Lines[2].Since, k.Dirty = api.Free, 0, true })
}
