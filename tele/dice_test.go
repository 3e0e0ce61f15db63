package tele_test

import "math"

// dice throws the same numbers each time.
type dice uint64

func (d *dice) throw(sides int) int {
	*d = *d*6364136223846793005 + 1442695040888963407
	return int(uint64(*d)>>33) % sides
}

// odd are numbers that are no number of anything, some of them right ones but for their higher bytes.
var odd = []int{math.MinInt, math.MinInt + 1, math.MinInt32, -65536, -257, -256, -255, -2, -1, 255, 256, 257, 258, 65536, 65537, 1 << 31, 1 << 32, 1<<32 + 1, 1 << 40, math.MaxInt - 1, math.MaxInt}
