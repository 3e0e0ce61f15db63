package mover_test

import "math"

// dice throws the same numbers each time.
type dice uint64

func (d *dice) throw(sides int) int {
	*d = *d*6364136223846793005 + 1442695040888963407
	return int(uint64(*d)>>33) % sides
}

// some gives one of the numbers.
func (d *dice) some(list ...int) int { return list[d.throw(len(list))] }

// odd are numbers that are no number of anything, some of them right ones but for their higher bytes.
var odd = []int{math.MinInt, math.MinInt + 1, -1 << 62, math.MinInt32, -65536, -256, -3, -2, -1, 5, 9, 16, 255, 256, 65536, 1 << 31, 1 << 32, 1<<32 + 1, 1 << 62, math.MaxInt - 1, math.MaxInt}
