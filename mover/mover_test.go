package mover_test

import (
	"math"
	"math/big"
	"testing"

	"ballast/api"
	"ballast/mover"
)

// greatest is what numbers above it count as.
const greatest = 1 << 62

// times are the numbers next to all bounds, and those far from them.
var times = []int{
	math.MinInt, math.MinInt + 1, -greatest - 1, -greatest, math.MinInt32, -9, -3, -2, -1, 0, 1, 2, 3, 8, 9, 11, 12, 40,
	api.MaxTime - 1, api.MaxTime, api.MaxTime + 1, greatest/2 - 1, greatest / 2, greatest/2 + 1, greatest - 3, greatest - 2, greatest - 1, greatest, greatest + 1, greatest + 2, math.MaxInt - 1, math.MaxInt,
}

// starts holds what Start answers.
func starts(t *testing.T, now int, want api.Mover) {
	t.Helper()
	if got := mover.Start(now); got != want {
		t.Errorf("Start(%d): %v; want %v", now, got, want)
	}
}

// commands holds what Command answers.
func commands(t *testing.T, m api.Mover, now, cmd int, want api.Mover) {
	t.Helper()
	if got := mover.Command(m, now, cmd); got != want {
		t.Errorf("Command(%v, %d, %d): %v; want %v", m, now, cmd, got, want)
	}
}

// proven holds what Proven answers.
func proven(t *testing.T, m api.Mover, l api.Look, age int, want bool) {
	t.Helper()
	if got := mover.Proven(m, l, age); got != want {
		t.Errorf("Proven(%v, %v, %d): %v; want %v", m, l, age, got, want)
	}
}

// valid is a look that counts.
func valid(value, stamp int) api.Look { return api.Look{Value: value, Stamp: stamp, Valid: true} }

// P12.1, the chapter's examples.
func TestExamples(t *testing.T) {
	starts(t, 5, api.Mover{Cmd: 0, Other: 5})
	commands(t, api.Mover{Cmd: 0, Other: 5}, 9, 1, api.Mover{Cmd: 1, Other: 9})
	commands(t, api.Mover{Cmd: 1, Other: 9}, 20, 1, api.Mover{Cmd: 1, Other: 9})
	m := api.Mover{Cmd: 1, Other: 9}
	proven(t, m, valid(1, 12), 2, true)
	proven(t, m, valid(1, 11), 2, false)
	proven(t, m, valid(2, 12), 2, false)
	proven(t, m, api.Look{Value: 1, Stamp: 12}, 2, false)
}

// P12.1: a mover at its start has no command, since any now; no look proves it.
func TestStart(t *testing.T) {
	for _, now := range times {
		starts(t, now, api.Mover{Cmd: 0, Other: now})
		for _, stamp := range times {
			for value := range 3 {
				proven(t, mover.Start(now), valid(value, stamp), -1, false)
				proven(t, mover.Start(now), valid(value, stamp), 2, false)
			}
		}
	}
}

// P12.1: the same command again leaves the mover as it is, whenever it is given; another one, and none, are given from then on.
func TestCommand(t *testing.T) {
	cmds := []int{0, 1, 2, 3, -1, math.MinInt, math.MaxInt, 1<<32 + 1}
	for _, was := range cmds {
		for _, cmd := range cmds {
			for _, other := range times {
				for _, now := range times {
					want := api.Mover{Cmd: cmd, Other: now}
					if was == cmd {
						want.Other = other
					}
					commands(t, api.Mover{Cmd: was, Other: other}, now, cmd, want)
				}
			}
		}
	}
}

// P12.1: a row of commands: each other one, also one that was given before, counts from its own cycle on.
func TestCommandsInTurn(t *testing.T) {
	m := mover.Start(5)
	for _, c := range []struct {
		now, cmd int
		want     api.Mover
	}{
		{5, 0, api.Mover{Cmd: 0, Other: 5}}, {6, 0, api.Mover{Cmd: 0, Other: 5}}, {6, 2, api.Mover{Cmd: 2, Other: 6}},
		{7, 2, api.Mover{Cmd: 2, Other: 6}}, {9, 1, api.Mover{Cmd: 1, Other: 9}}, {9, 2, api.Mover{Cmd: 2, Other: 9}},
		{10, 0, api.Mover{Cmd: 0, Other: 10}}, {11, 0, api.Mover{Cmd: 0, Other: 10}}, {12, 2, api.Mover{Cmd: 2, Other: 12}},
		{3, 2, api.Mover{Cmd: 2, Other: 12}}, {3, 1, api.Mover{Cmd: 1, Other: 3}},
	} {
		commands(t, m, c.now, c.cmd, c.want)
		m = mover.Command(m, c.now, c.cmd)
	}
}

// P12.1: a look proves only if it is valid and says what is commanded, whatever number that is but nought.
func TestProvenValues(t *testing.T) {
	values := []int{0, 1, 2, 3, 256, 257, 1<<32 + 1, math.MaxInt, -1}
	for _, cmd := range values {
		for _, value := range values {
			m := api.Mover{Cmd: cmd, Other: 9}
			proven(t, m, valid(value, 12), 2, cmd == value && cmd != 0)
			proven(t, m, valid(value, 11), 2, false)
			proven(t, m, api.Look{Value: value, Stamp: 12}, 2, false)
		}
	}
}

// P12.1: a stamp just the age behind Other, on it, and ahead of it proves nothing; one tick more does.
func TestProvenStamps(t *testing.T) {
	for _, age := range []int{0, 1, 2, api.MaxAge, 40} {
		for _, other := range []int{-1, 0, 1, 9, api.MaxTime, greatest - 41} {
			for cmd := 1; cmd < 3; cmd++ {
				m := api.Mover{Cmd: cmd, Other: other}
				for _, early := range []int{1, 2, age, age + 1, other + 1, other + 40} {
					proven(t, m, valid(cmd, other-early), age, false)
				}
				for late := range age + 1 {
					proven(t, m, valid(cmd, other+late), age, false)
				}
				for _, late := range []int{age + 1, age + 2, 41, 1000, greatest} {
					proven(t, m, valid(cmd, other+late), age, true)
				}
			}
		}
	}
}

// P12.1: numbers below -1 count as -1: an Other and a stamp as far below as may be are equal, and an age below -1 lets a stamp on Other prove, but not one ahead of it.
func TestProvenBelow(t *testing.T) {
	for _, low := range []int{math.MinInt, math.MinInt + 1, -greatest, -3, -2, -1} {
		m := api.Mover{Cmd: 1, Other: low}
		for _, stamp := range []int{math.MinInt, math.MinInt + 1, -greatest, -2, -1} {
			proven(t, m, valid(1, stamp), 0, false)
			proven(t, m, valid(1, stamp), low, true)
		}
		proven(t, m, valid(1, 0), 0, true)
		proven(t, m, valid(1, 0), 1, false)
		proven(t, m, valid(1, 1), 1, true)
		at := api.Mover{Cmd: 1, Other: 9}
		proven(t, at, valid(1, 8), low, false)
		proven(t, at, valid(1, 9), low, true)
		proven(t, at, valid(1, low), low, false)
	}
}

// P12.1: numbers above 2^62 count as 2^62: an Other and a stamp as far above as may be are equal, and no stamp lies so great an age behind but behind -1.
func TestProvenAbove(t *testing.T) {
	for _, high := range []int{greatest, greatest + 1, greatest + 2, math.MaxInt - 1, math.MaxInt} {
		m := api.Mover{Cmd: 1, Other: high}
		for _, stamp := range []int{greatest - 1, greatest, greatest + 1, greatest + 2, math.MaxInt} {
			proven(t, m, valid(1, stamp), 0, false)
			proven(t, m, valid(1, stamp), -1, stamp >= greatest)
		}
		for _, age := range []int{greatest, greatest + 1, math.MaxInt} {
			proven(t, api.Mover{Cmd: 1, Other: 0}, valid(1, high), age, false)
			proven(t, api.Mover{Cmd: 1, Other: -1}, valid(1, high), age, true)
			proven(t, api.Mover{Cmd: 1, Other: math.MinInt}, valid(1, high), age, true)
		}
		proven(t, api.Mover{Cmd: 1, Other: 0}, valid(1, high), greatest-1, true)
		proven(t, api.Mover{Cmd: 1, Other: 1}, valid(1, high), greatest-1, false)
	}
}

// counts is a number as it counts, beyond 64 bits.
func counts(n int) *big.Int {
	b, low, high := big.NewInt(int64(n)), big.NewInt(-1), new(big.Int).Lsh(big.NewInt(1), 62)
	if b.Cmp(low) < 0 {
		return low
	}
	if b.Cmp(high) > 0 {
		return high
	}
	return b
}

// P12.1: all times of the list against each other, held against differences worked out beyond 64 bits.
func TestProvenTimes(t *testing.T) {
	yes := 0
	for _, other := range times {
		for _, stamp := range times {
			gap := new(big.Int).Sub(counts(stamp), counts(other))
			for _, age := range times {
				want := gap.Cmp(counts(age)) > 0
				proven(t, api.Mover{Cmd: 2, Other: other}, valid(2, stamp), age, want)
				proven(t, api.Mover{Cmd: 2, Other: other}, api.Look{Value: 2, Stamp: stamp}, age, false)
				proven(t, api.Mover{Cmd: 2, Other: other}, valid(1, stamp), age, false)
				if want {
					yes++
				}
			}
		}
	}
	if yes < 1000 {
		t.Error("too few were proved: ", yes)
	}
}
