package link_test

import (
	"math"
	"math/big"
	"testing"

	"ballast/api"
	"ballast/link"
	"ballast/seq"
)

func made(t *testing.T, peer, number, stamp int, payload string) string {
	t.Helper()
	text, e := link.Make(peer, number, stamp, payload)
	if e != api.OK {
		t.Fatal("no telegram", peer, number, stamp, len(payload), e)
	}
	return text
}

// takes holds what one call of Take answers.
func takes(t *testing.T, r *link.Receiver, now int, text, payload string, want api.Errno) {
	t.Helper()
	if got, e := r.Take(now, text); got != payload || e != want {
		t.Errorf("Take at %d: %q, %d; want %q, %d", now, got, e, payload, want)
	}
}

// tells holds what Last and Lost answer.
func tells(t *testing.T, r *link.Receiver, last, lost int) {
	t.Helper()
	if r.Last() != last || r.Lost() != lost {
		t.Errorf("Last %d, Lost %d; want %d, %d", r.Last(), r.Lost(), last, lost)
	}
}

// P9.1, the chapter's first example.
func TestTakeExample(t *testing.T) {
	text, e := link.NewSender(3).Send(7, "x")
	if text != framed(t, "\x03\x00\x01\x00\x00\x00\x07\x78") || e != api.OK {
		t.Errorf("Send: %x, %d", text, e)
	}
	for now := 7; now <= 9; now++ {
		r := link.NewReceiver(3, 2)
		takes(t, r, now, text, "x", api.OK)
		for again := now; again <= 9; again++ {
			takes(t, r, again, text, "", api.ErrAgain)
		}
		takes(t, r, 10, text, "", api.ErrOld)
		takes(t, r, 6, text, "", api.ErrFuture)
		tells(t, r, 7, 0)
	}
	takes(t, link.NewReceiver(3, 2), 6, text, "", api.ErrFuture)
	takes(t, link.NewReceiver(3, 2), 10, text, "", api.ErrOld)
}

// P9.1, the chapter's second example: another peer's telegram, at any time.
func TestPeerExample(t *testing.T) {
	text, _ := link.NewSender(3).Send(7, "x")
	for _, now := range []int{6, 7, 9, 10} {
		r := link.NewReceiver(4, 2)
		takes(t, r, now, text, "", api.ErrPeer)
		tells(t, r, -1, 0)
	}
}

// P9.1: the first number is 1, each further one the next, round behind 65535, whatever the stamps are.
func TestSenderNumbers(t *testing.T) {
	s := link.NewSender(255)
	for i := 1; i <= 2*65536+3; i++ {
		now := []int{0, api.MaxTime, 7, i}[i%4]
		text, e := s.Send(now, "")
		if want := made(t, 255, i%65536, now, ""); text != want || e != api.OK {
			t.Fatalf("telegram %d: %x, %d; want %x", i, text, e, want)
		}
	}
}

// P9.1: with an error no number is used up, nor is anything else changed.
func TestSenderErrors(t *testing.T) {
	s := link.NewSender(0)
	for i := 1; i < 70000; i += 1 + i%500 {
		for _, c := range []struct {
			now     int
			payload string
			want    api.Errno
		}{
			{-1, "x", api.ErrField}, {api.MaxTime + 1, "x", api.ErrField}, {math.MinInt, "", api.ErrField}, {math.MaxInt, "", api.ErrField},
			{-1, long, api.ErrField}, {api.MaxTime + 1, long, api.ErrField}, {0, long, api.ErrLong}, {api.MaxTime, long, api.ErrLong},
		} {
			if text, e := s.Send(c.now, c.payload); text != "" || e != c.want {
				t.Fatalf("Send at %d of %d bytes: %d bytes, %d; want %d", c.now, len(c.payload), len(text), e, c.want)
			}
		}
		for n := i; n < i+1+i%500; n++ {
			if text, e := s.Send(n, "y"); text != made(t, 0, n%65536, n, "y") || e != api.OK {
				t.Fatalf("telegram %d: %d", n, e)
			}
		}
	}
}

// P9.1: a sender for a peer that there can't be sends nothing.
func TestSenderOfNoPeer(t *testing.T) {
	for _, peer := range []int{-1, 256, 65536, math.MinInt, math.MaxInt} {
		s := link.NewSender(peer)
		for _, payload := range []string{"", "x", full, long} {
			if text, e := s.Send(0, payload); text != "" || e != api.ErrField {
				t.Errorf("peer %d: %d bytes, %d", peer, len(text), e)
			}
		}
	}
}

// P9.1: ahead of the first telegram nothing was taken, so that nothing is alive, and refused ones change nothing of it.
func TestNothingTaken(t *testing.T) {
	times := []int{math.MinInt, -2, -1, 0, 1, 7, api.MaxTime, math.MaxInt - 1, math.MaxInt}
	for _, age := range []int{math.MinInt, -1, 0, 1, api.MaxAge, math.MaxInt} {
		r := link.NewReceiver(3, age)
		for range 2 {
			tells(t, r, -1, 0)
			for _, now := range times {
				if r.Alive(now) {
					t.Errorf("age %d: alive at %d", age, now)
				}
			}
			takes(t, r, 7, "", "", api.ErrShort)
			takes(t, r, 7, made(t, 2, 9, 7, "x"), "", api.ErrPeer)
			takes(t, r, 7, made(t, 3, 9, 8, "x"), "", api.ErrFuture)
			takes(t, r, math.MinInt, made(t, 3, 9, 0, "x"), "", api.ErrFuture)
		}
	}
}

// P9.1: a stamp just at now is taken, one above is ErrFuture; one just as old as the age is taken, one older is ErrOld; at the ends of what stamps and whole numbers can be, too.
func TestFreshness(t *testing.T) {
	for _, c := range []struct {
		age, now, stamp int
		want            api.Errno
	}{
		{2, 7, 8, api.ErrFuture}, {2, 7, 7, api.OK}, {2, 7, 6, api.OK}, {2, 7, 5, api.OK}, {2, 7, 4, api.ErrOld}, {2, 7, 0, api.ErrOld},
		{0, 7, 8, api.ErrFuture}, {0, 7, 7, api.OK}, {0, 7, 6, api.ErrOld},
		{-1, 7, 8, api.ErrFuture}, {-1, 7, 7, api.ErrOld}, {-1, 0, 0, api.ErrOld}, {math.MinInt, 7, 8, api.ErrFuture}, {math.MinInt, 7, 7, api.ErrOld},
		{math.MinInt, api.MaxTime, 0, api.ErrOld}, {math.MinInt, math.MaxInt, 0, api.ErrOld},
		{2, 0, 0, api.OK}, {2, 1, 0, api.OK}, {2, 2, 0, api.OK}, {2, 3, 0, api.ErrOld}, {2, 0, 1, api.ErrFuture},
		{2, -1, 0, api.ErrFuture}, {2, -2, 0, api.ErrFuture}, {-1, -1, 0, api.ErrFuture}, {math.MaxInt, -1, 0, api.ErrFuture}, {math.MaxInt, math.MinInt, api.MaxTime, api.ErrFuture},
		{math.MinInt, math.MinInt, 0, api.ErrFuture}, {math.MinInt, math.MinInt, api.MaxTime, api.ErrFuture},
		{8, api.MaxTime, api.MaxTime, api.OK}, {8, api.MaxTime, api.MaxTime - 8, api.OK}, {8, api.MaxTime, api.MaxTime - 9, api.ErrOld},
		{8, api.MaxTime - 1, api.MaxTime, api.ErrFuture}, {8, api.MaxTime + 8, api.MaxTime, api.OK}, {8, api.MaxTime + 9, api.MaxTime, api.ErrOld},
		{math.MaxInt, math.MaxInt, 0, api.OK}, {math.MaxInt - 1, math.MaxInt, 0, api.ErrOld}, {math.MaxInt - 1, math.MaxInt, 1, api.OK},
		{math.MaxInt, math.MaxInt, api.MaxTime, api.OK}, {math.MaxInt, api.MaxTime, 0, api.OK},
	} {
		r := link.NewReceiver(3, c.age)
		payload, last := "x", c.stamp
		if c.want != api.OK {
			payload, last = "", -1
		}
		takes(t, r, c.now, made(t, 3, 5, c.stamp, "x"), payload, c.want)
		tells(t, r, last, 0)
		if r.Alive(c.now) != (c.want == api.OK) {
			t.Errorf("age %d, stamp %d: alive at %d: %v", c.age, c.stamp, c.now, r.Alive(c.now))
		}
	}
}

// P9.1: alive from the last stamp on, as long as the age, at any time that there is.
func TestAlive(t *testing.T) {
	for _, stamp := range []int{0, 1, 7, api.MaxTime} {
		for _, age := range []int{0, 1, 2, api.MaxAge, math.MaxInt - api.MaxTime, math.MaxInt} {
			r := link.NewReceiver(3, age)
			takes(t, r, stamp, made(t, 3, 5, stamp, ""), "", api.OK)
			end := new(big.Int).Add(big.NewInt(int64(stamp)), big.NewInt(int64(age)))
			times := []int{math.MinInt, math.MinInt + 1, -1, 0, stamp - 1, stamp, stamp + 1, stamp + 2, stamp + 3, stamp + api.MaxAge, stamp + api.MaxAge + 1, math.MaxInt - 1, math.MaxInt}
			for _, now := range times {
				want := now >= stamp && big.NewInt(int64(now)).Cmp(end) <= 0
				if r.Alive(now) != want {
					t.Errorf("stamp %d, age %d: alive at %d: %v", stamp, age, now, r.Alive(now))
				}
			}
		}
	}
}

// P9.1: which error comes first where several apply.
func TestTakeOrder(t *testing.T) {
	r := link.NewReceiver(3, 2)
	takes(t, r, 7, made(t, 3, 1, 7, "x"), "x", api.OK)
	spoilt := []byte(made(t, 4, 1, 20, "x"))
	spoilt[2] ^= 1
	for name, c := range map[string]struct {
		now  int
		text string
		want api.Errno
	}{
		"spoilt, another's, later than now":   {7, string(spoilt), api.ErrSum},
		"no telegram, another's":              {7, framed(t, "\x04"), api.ErrBytes},
		"too long, another's, later than now": {7, framed(t, "\x04\x00\x01\x00\x00\x00\x14"+long), api.ErrLong},
		"another's, later than now":           {7, made(t, 4, 1, 8, "x"), api.ErrPeer},
		"another's, too old, again":           {7, made(t, 4, 1, 4, "x"), api.ErrPeer},
		"another's, again":                    {7, made(t, 4, 1, 7, "x"), api.ErrPeer},
		"later than now, again":               {6, made(t, 3, 1, 7, "x"), api.ErrFuture},
		"too old, again":                      {7, made(t, 3, 1, 4, "x"), api.ErrOld},
		"too old, new":                        {11, made(t, 3, 1, 8, "x"), api.ErrOld},
		"just old enough, again":              {9, made(t, 3, 1, 7, "x"), api.ErrAgain},
		"older than what was taken":           {7, made(t, 3, 2, 6, "y"), api.ErrAgain},
		"as old, another number":              {7, made(t, 3, 2, 7, "y"), api.ErrAgain},
	} {
		if got, e := r.Take(c.now, c.text); got != "" || e != c.want {
			t.Errorf("%s: %q, %d; want %d", name, got, e, c.want)
		}
		tells(t, r, 7, 0)
	}
	takes(t, r, 8, made(t, 3, 2, 8, "y"), "y", api.OK)
}

// P9.1: the lost ones are those of the numbers taken: refused telegrams count neither as taken nor as lost, the first one says nothing, and the numbers go round.
func TestLost(t *testing.T) {
	r := link.NewReceiver(0, 1)
	for _, c := range []struct {
		number, stamp int
		want          api.Errno
		lost          int
	}{
		{65530, 10, api.OK, 0}, {65531, 11, api.OK, 0}, {65535, 11, api.ErrAgain, 0}, {65534, 12, api.OK, 2}, {1, 13, api.OK, 4},
		{9, 15, api.ErrFuture, 4}, {2, 14, api.OK, 4}, {2, 15, api.OK, 4}, {1, 16, api.OK, 4}, {65000, 17, api.OK, 4}, {3, 18, api.OK, 4}, {5, 19, api.OK, 5},
		{5 + 32768, 20, api.OK, 5}, {5 + 32767, 21, api.OK, 5 + 32766}, {0, 22, api.OK, 5 + 32766 + 32763}, {0, 23, api.OK, 5 + 32766 + 32763},
	} {
		now := c.stamp
		if c.want == api.ErrFuture {
			now--
		}
		if _, e := r.Take(now, made(t, 0, c.number, c.stamp, "")); e != c.want || r.Lost() != c.lost {
			t.Errorf("number %d at %d: %d, Lost %d; want %d, %d", c.number, c.stamp, e, r.Lost(), c.want, c.lost)
		}
	}
}

// P9.1: numbers are nothing but counted: newer stamps are taken with any number, and of the least as of the greatest number.
func TestNumbersDontRefuse(t *testing.T) {
	for _, first := range []int{0, 1, 65535} {
		r := link.NewReceiver(255, 0)
		row := []int{}
		for stamp, number := range []int{first, 0, 65535, 1, 40000, 2, 2, 1, 0} {
			takes(t, r, stamp, made(t, 255, number, stamp, "n"), "n", api.OK)
			row = append(row, number)
			tells(t, r, stamp, seq.Lost(row...))
		}
	}
}

// R6: two receivers of one peer, and two senders, have nothing to do with one another.
func TestApart(t *testing.T) {
	s, other := link.NewSender(3), link.NewSender(3)
	text, _ := s.Send(7, "x")
	again, _ := other.Send(7, "x")
	if text != again {
		t.Errorf("the second sender: %x, the first: %x", again, text)
	}
	r, second := link.NewReceiver(3, 2), link.NewReceiver(3, 2)
	takes(t, r, 7, text, "x", api.OK)
	tells(t, second, -1, 0)
	takes(t, second, 7, again, "x", api.OK)
	later, _ := s.Send(8, "y")
	takes(t, r, 8, later, "y", api.OK)
	tells(t, second, 7, 0)
	if second.Alive(10) || !r.Alive(10) {
		t.Error("alive at 10: the second, or not the first")
	}
}
