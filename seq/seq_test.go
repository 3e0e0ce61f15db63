package seq_test

import (
	"math"
	"math/big"
	"slices"
	"testing"

	"ballast/seq"
)

const round = 65536

// least is the number from low on that differs from a - b by a multiple of 65536, worked out beyond 64 bits: the chapter's rule said another way.
func least(low, a, b int) int {
	d := new(big.Int).Sub(big.NewInt(int64(a)), big.NewInt(int64(b)))
	d.Sub(d, big.NewInt(int64(low)))
	d.Mod(d, big.NewInt(round)) // from 0 on, below nought too
	return low + int(d.Int64())
}

// edges are numbers about the rounds' ends, halves and quarters, about what 32 and 64 bits hold, and some between.
func edges() []int {
	list := []int{12345, -12345, 1234567890123456789, -1234567890123456789, math.MinInt, math.MinInt + 1, math.MaxInt - 1, math.MaxInt}
	for _, middle := range []int{0, 255, 16384, 32768, 49152, 65536, 98304, 131072, -32768, -65536, -98304, -131072,
		math.MinInt32, math.MaxInt32, math.MaxUint32, math.MinInt + 32768, math.MaxInt - 32768, math.MinInt + 65536, math.MaxInt - 65536} {
		for n := middle - 2; n <= middle+2; n++ {
			list = append(list, n)
		}
	}
	return list
}

// rounds are multiples of 65536, the least and the greatest whole ones among them.
func rounds() []int {
	return []int{0, round, -round, 7 * round, -7 * round, round * round, -round * round, math.MinInt, math.MaxInt - (round - 1)}
}

// P3.1, the chapter's first example.
func TestNumbersExample(t *testing.T) {
	for name, c := range map[string]struct{ got, want int }{
		"Of(-1)":        {seq.Of(-1), 65535},
		"Next(65535)":   {seq.Next(65535), 0},
		"Gap(65535, 0)": {seq.Gap(65535, 0), 1},
		"Gap(0, 65535)": {seq.Gap(0, 65535), -1},
		"Gap(0, 32768)": {seq.Gap(0, 32768), -32768},
	} {
		if c.got != c.want {
			t.Errorf("%s = %d, want %d", name, c.got, c.want)
		}
	}
}

// P3.1, the chapter's second example.
func TestLostExample(t *testing.T) {
	for _, c := range []struct {
		list []int
		want int
	}{
		{[]int{5, 6, 9, 7, 10}, 2},
		{[]int{65534, 1}, 2},
		{nil, 0},
	} {
		if n := seq.Lost(c.list...); n != c.want {
			t.Errorf("Lost(%d) = %d, want %d", c.list, n, c.want)
		}
	}
	if n := seq.Lost(); n != 0 {
		t.Errorf("Lost() = %d", n)
	}
}

// P3.1: each number of a round stands for itself, and in every other round for the one in the same place.
func TestOf(t *testing.T) {
	for want := range round {
		for _, r := range rounds() {
			if n := seq.Of(r + want); n != want {
				t.Fatalf("Of(%d) = %d, want %d", r+want, n, want)
			}
		}
	}
	for _, n := range edges() {
		if got := seq.Of(n); got != least(0, n, 0) {
			t.Errorf("Of(%d) = %d, want %d", n, got, least(0, n, 0))
		}
	}
}

// P3.1: the next one is one more, but 0 behind the last of a round; the greatest whole number has one too.
func TestNext(t *testing.T) {
	for n := range round {
		want := n + 1
		if n == 65535 {
			want = 0
		}
		for _, r := range rounds() {
			if got := seq.Next(r + n); got != want {
				t.Fatalf("Next(%d) = %d, want %d", r+n, got, want)
			}
		}
	}
	for _, n := range []int{-1, math.MaxInt, math.MinInt + 65535} {
		if got := seq.Next(n); got != 0 {
			t.Errorf("Next(%d) = %d, want 0", n, got)
		}
	}
	if got := seq.Next(math.MinInt); got != 1 {
		t.Errorf("Next(%d) = %d, want 1", math.MinInt, got)
	}
}

// P3.1: the gap and which is newer, as worked out beyond 64 bits, for all pairs of edges.
func TestGap(t *testing.T) {
	for _, a := range edges() {
		for _, b := range edges() {
			want := least(-32768, b, a)
			if got := seq.Gap(a, b); got != want {
				t.Fatalf("Gap(%d, %d) = %d, want %d", a, b, got, want)
			}
			if got := seq.Newer(a, b); got != (want > 0) {
				t.Fatalf("Newer(%d, %d) = %t", a, b, got)
			}
		}
	}
}

// P3.1: from some numbers, those that lie behind and ahead of them by every number that a gap may be, whatever the rounds.
func TestGapOfEachSize(t *testing.T) {
	for _, a := range []int{0, 1, 32767, 32768, 65535, -40000, 1 << 40} {
		for want := -32768; want <= 32767; want++ {
			for _, r := range []int{0, round, -3 * round} {
				b := a + want + r
				if got := seq.Gap(a, b); got != want {
					t.Fatalf("Gap(%d, %d) = %d, want %d", a, b, got, want)
				}
				if got := seq.Newer(a, b); got != (want >= 1) {
					t.Fatalf("Newer(%d, %d) = %t", a, b, got)
				}
			}
		}
	}
}

// P3.1: differences that leave the 64 bits.
func TestGapOfLeastAndGreatest(t *testing.T) {
	for _, c := range []struct{ a, b, want int }{
		{math.MinInt, math.MaxInt, -1},
		{math.MaxInt, math.MinInt, 1},
		{math.MinInt, math.MinInt, 0},
		{math.MaxInt, math.MaxInt, 0},
		{math.MinInt, 0, 0},
		{0, math.MinInt, 0},
		{math.MaxInt, 0, 1},
		{0, math.MaxInt, -1},
		{-1, math.MaxInt, 0},
		{math.MaxInt, math.MinInt + 32767, -32768},
		{math.MaxInt, math.MinInt + 32766, 32767},
		{math.MinInt + 32768, math.MaxInt, 32767},
		{math.MinInt + 32767, math.MaxInt, -32768},
	} {
		if got := seq.Gap(c.a, c.b); got != c.want {
			t.Errorf("Gap(%d, %d) = %d, want %d", c.a, c.b, got, c.want)
		}
		if got := seq.Newer(c.a, c.b); got != (c.want > 0) {
			t.Errorf("Newer(%d, %d) = %t", c.a, c.b, got)
		}
	}
}

// P3.1: what is lost in a row: of none, of one, of many.
func TestLost(t *testing.T) {
	for _, c := range []struct {
		list []int
		want int
	}{
		{[]int{}, 0},
		{[]int{0}, 0},
		{[]int{9}, 0},
		{[]int{65535}, 0},
		{[]int{math.MinInt}, 0},
		{[]int{math.MaxInt}, 0},
		{[]int{5, 5}, 0},
		{[]int{5, 6}, 0},
		{[]int{5, 7}, 1},
		{[]int{5, 4}, 0},
		{[]int{0, 32767}, 32766},
		{[]int{0, 32768}, 0},
		{[]int{0, 32769}, 0},
		{[]int{40000, 7232}, 0},
		{[]int{40000, 7231}, 32766},
		{[]int{5, 4, 6}, 0},                     // the one that is passed over isn't taken: 6 is behind 5
		{[]int{5, 9, 7, 8, 10}, 3},              // those that come late stay lost
		{[]int{5, 9, 9, 5, 11}, 4},              // neither twice nor from before
		{[]int{0, 32768, 32769, 2}, 1},          // half a round on is passed over
		{[]int{0, 40000, 40001, 1}, 0},          // what is passed over opens no way to others
		{[]int{65535, 0, 1}, 0},                 // round without a loss
		{[]int{65533, 65535, 65534, 2, 0}, 3},   // round with losses
		{[]int{-2, 1}, 2},                       // numbers that stand for others
		{[]int{-1, 65536, 131073, -65534}, 0},   // each of another round
		{[]int{math.MaxInt, math.MinInt}, 0},    // the greatest, then the least
		{[]int{math.MaxInt, math.MinInt, 3}, 2}, // and on from there
		{[]int{math.MinInt, math.MaxInt, 1}, 0}, // the greatest is right ahead of the least
		{[]int{0, 32767, 65534, 32765}, 98298},  // more in all than a round has
	} {
		if n := seq.Lost(c.list...); n != c.want {
			t.Errorf("Lost(%d) = %d, want %d", c.list, n, c.want)
		}
	}
}

// P3.1: of many rounds in which just each third number comes, the others are lost, and none if all come.
func TestLostOfMany(t *testing.T) {
	all, third := []int{}, []int{}
	for n := range 3 * round {
		all = append(all, n%round)
		if n%3 == 0 {
			third = append(third, n%round, (n+round-5)%round)
		}
	}
	if n := seq.Lost(all...); n != 0 {
		t.Errorf("of a whole row: %d lost", n)
	}
	if n := seq.Lost(third...); n != 2*(round-1) {
		t.Errorf("of each third: %d lost, want %d", n, 2*(round-1))
	}
}

// P3.1: half a round on is not newer, so that going by halves nothing is taken or lost; a little less is.
func TestLostByHalves(t *testing.T) {
	halves, less := []int{}, []int{}
	for i := range 100 {
		halves = append(halves, i*32768)
		less = append(less, i*32767)
	}
	if n := seq.Lost(halves...); n != 0 {
		t.Errorf("by halves: %d lost", n)
	}
	if n := seq.Lost(less...); n != 99*32766 {
		t.Errorf("by less: %d lost, want %d", n, 99*32766)
	}
}

// P3.1: any number stands for the one of its round's place in each of the calls.
func TestStandsFor(t *testing.T) {
	for _, a := range edges() {
		if got, want := seq.Next(a), seq.Next(seq.Of(a)); got != want {
			t.Errorf("Next(%d) = %d, want %d", a, got, want)
		}
		for _, b := range edges() {
			if got, want := seq.Gap(a, b), seq.Gap(seq.Of(a), seq.Of(b)); got != want {
				t.Fatalf("Gap(%d, %d) = %d, want %d", a, b, got, want)
			}
			list := []int{a, b, a + 3, b + 5}
			if got, want := seq.Lost(list...), seq.Lost(seq.Of(a), seq.Of(b), seq.Of(a+3), seq.Of(b+5)); got != want {
				t.Fatalf("Lost(%d) = %d, want %d", list, got, want)
			}
		}
	}
}

// P3.2: the next one is newer by one, and not the other way round.
func TestNextIsNewer(t *testing.T) {
	held := func(a int) {
		t.Helper()
		next := seq.Next(a)
		if !seq.Newer(a, next) || seq.Newer(next, a) || seq.Gap(a, next) != 1 || seq.Gap(next, a) != -1 {
			t.Fatalf("%d and %d: %t, %t, %d, %d", a, next, seq.Newer(a, next), seq.Newer(next, a), seq.Gap(a, next), seq.Gap(next, a))
		}
	}
	for a := range round {
		held(a)
	}
	for _, a := range edges() {
		held(a)
	}
}

// P3.3: of two unlike numbers just one is newer; of those half a round apart, and of like ones, none.
func TestJustOneIsNewer(t *testing.T) {
	for _, a := range append(edges(), 777, 60000) {
		for b := range round {
			one, other := seq.Newer(a, b), seq.Newer(b, a)
			gap := seq.Gap(a, b)
			switch {
			case gap == -32768 && (one || other || seq.Gap(b, a) != -32768):
				t.Fatalf("%d and %d, half a round apart: %t, %t, %d", a, b, one, other, seq.Gap(b, a))
			case b == seq.Of(a) && (one || other || gap != 0):
				t.Fatalf("%d and %d are like: %t, %t, %d", a, b, one, other, gap)
			case gap != -32768 && b != seq.Of(a) && (one == other || seq.Gap(b, a) != -gap):
				t.Fatalf("%d and %d: %t, %t, %d, %d", a, b, one, other, gap, seq.Gap(b, a))
			}
		}
	}
}

// P3.3: numbers less than 32768 apart in a row of Nexts are ordered as the row is, wherever it begins and however often it goes round.
func TestRowIsOrdered(t *testing.T) {
	for _, first := range []int{0, 32768, 65535, -1, math.MaxInt, math.MinInt} {
		row := []int{first}
		for range 2*round + 5 {
			row = append(row, seq.Next(row[len(row)-1]))
		}
		for i, a := range row {
			for _, apart := range []int{1, 2, 255, 256, 16384, 32766, 32767} {
				if i+apart >= len(row) {
					break
				}
				b := row[i+apart]
				if !seq.Newer(a, b) || seq.Newer(b, a) || seq.Gap(a, b) != apart {
					t.Fatalf("%d and %d, %d apart: %t, %t, %d", a, b, apart, seq.Newer(a, b), seq.Newer(b, a), seq.Gap(a, b))
				}
			}
		}
	}
}

// P3.3: in a row of 32768, pairs of each distance.
func TestRowOfEachDistance(t *testing.T) {
	const first = 50000 // so that the row goes round
	for apart := 1; apart < 32768; apart++ {
		for i := 0; i+apart < 32768; i += 1 + i/64 {
			a, b := seq.Of(first+i), seq.Of(first+i+apart)
			if !seq.Newer(a, b) || seq.Newer(b, a) {
				t.Fatalf("%d and %d, %d apart", a, b, apart)
			}
		}
	}
}

// R4, R5: the list that is handed in, and the memory behind it, stay as they are, and the same call answers the same.
func TestLostLeavesList(t *testing.T) {
	list := []int{5, -9, 70000, 7, 10, 11}
	first := seq.Lost(list[:4]...)
	if again := seq.Lost(list[:4]...); again != first {
		t.Errorf("%d, then %d", first, again)
	}
	if !slices.Equal(list, []int{5, -9, 70000, 7, 10, 11}) {
		t.Errorf("changed: %d", list)
	}
}
