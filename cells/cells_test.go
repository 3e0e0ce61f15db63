package cells_test

import (
	"math"
	"slices"
	"strings"
	"testing"

	"ballast/api"
	"ballast/cells"
)

// want holds an error against what it should be.
func want(t *testing.T, e, should api.Errno) {
	t.Helper()
	if e != should {
		t.Errorf("answered %d, want %d", e, should)
	}
}

// reads holds the bytes from a place on against what they should be.
func reads(t *testing.T, m *cells.Memory, page, at int, text string) {
	t.Helper()
	if got, e := m.Read(page, at, len(text)); got != text || e != api.OK {
		t.Errorf("Read(%d, %d, %d) = %q, %d; want %q", page, at, len(text), got, e, text)
	}
}

// P7.1, the chapter's first example.
func TestExample(t *testing.T) {
	m := cells.New()
	want(t, m.Burn(0, 5, "ab", "c"), api.OK)
	reads(t, m, 0, 4, "\xffabc\xff")
	if n := m.Bare(0); n != 8 {
		t.Error("Bare is", n)
	}
	want(t, m.Burn(0, 7, "x"), api.ErrBurnt)
	want(t, m.Burn(0, 4096), api.OK)
	want(t, m.Burn(0, 4095, "xy"), api.ErrLong)
	want(t, m.Erase(0), api.OK)
	if worn, n := m.Worn(0), m.Bare(0); worn != 1 || n != 0 {
		t.Errorf("Worn %d, Bare %d", worn, n)
	}
}

// P7.1 and P7.3, the chapter's second example.
func TestCutExample(t *testing.T) {
	m := cells.New()
	m.Arm(api.Cut{At: 1, Part: 2})
	want(t, m.Burn(3, 0, "abc"), api.OK)
	want(t, m.Burn(3, 3, "defg"), api.ErrDown)
	if text, e := m.Read(3, 0, 6); text != "" || e != api.ErrDown {
		t.Errorf("Read = %q, %d", text, e)
	}
	reads(t, m.Again(), 3, 0, "abcde\xff")

	m = cells.New()
	want(t, m.Burn(3, 0, "abc"), api.OK)
	m.Arm(api.Cut{At: 0, Part: 1})
	want(t, m.Erase(3), api.ErrDown)
	reads(t, m.Again(), 3, 0, "\xffbc\xff")
}

// P7.1: a new memory is bare, unworn, up, without acts and cuts.
func TestNew(t *testing.T) {
	b := newBoth(t)
	b.bytes()
	for page := range api.Pages {
		want(t, b.burn(page, 0, "x"), api.OK)
		want(t, b.erase(page), api.OK)
	}
	b.bytes()
	if api.Pages != 24 || api.PageSize != 4096 {
		t.Errorf("%d pages of %d bytes", api.Pages, api.PageSize)
	}
}

// Numbers about the edges of pages, places and counts.
var (
	pageNumbers = []int{math.MinInt, math.MinInt32, -24, -1, 0, 1, 23, 24, 25, 1 << 32, math.MaxInt32, math.MaxInt}
	placeCounts = []int{math.MinInt, math.MinInt32, -4096, -1, 0, 1, 2, 4094, 4095, 4096, 4097, 1 << 32, math.MaxInt32, math.MaxInt}
)

// P7.1: pages that are and that are none, places and counts below 0, at the page's end and beyond it, of a memory that is up, and of one that is down.
func TestEdges(t *testing.T) {
	parts := [][]string{nil, {}, {""}, {"", ""}, {"x"}, {"", "x", ""}, {"x", "y"}, {strings.Repeat("z", 4095)}, {strings.Repeat("z", 4095), "y"},
		{strings.Repeat("z", 4096)}, {strings.Repeat("z", 4096), ""}, {strings.Repeat("z", 4096), "y"}, {strings.Repeat("z", 9000)}}
	b := newBoth(t)
	down := newBoth(t)
	down.arm(api.Cut{At: 0, Part: 0})
	want(t, down.burn(0, 0), api.ErrDown)
	for _, page := range pageNumbers {
		for _, at := range placeCounts {
			for _, n := range placeCounts {
				b.read(page, at, n)
				down.read(page, at, n)
			}
			for _, list := range parts {
				if b.burn(page, at, list...) == api.OK {
					b.read(page, 0, api.PageSize)
					b.erase(page)
				}
				down.burn(page, at, list...)
			}
		}
		b.erase(page)
		down.erase(page)
		if page < 0 || page > 23 {
			if b.c.Bare(page) != 0 || b.c.Worn(page) != 0 || down.c.Bare(page) != 0 || down.c.Worn(page) != 0 {
				t.Errorf("page %d, which is none, is worn or burnt", page)
			}
		}
	}
	b.bytes()
	down.bytes()
}

// P7.1: the error that a call's list names first, where several apply.
func TestFirstError(t *testing.T) {
	m := cells.New()
	want(t, m.Burn(0, 4095, "x"), api.OK)
	long := strings.Repeat("y", 5000)
	for _, c := range []struct {
		page, at int
		text     string
		e        api.Errno
	}{
		{0, 4095, "y", api.ErrBurnt},
		{0, 4095, "yz", api.ErrLong}, // burnt, too
		{0, 4094, "yz", api.ErrBurnt},
		{0, 4097, "yz", api.ErrIndex}, // too long, too
		{0, -1, long, api.ErrIndex},
		{-1, 4095, long, api.ErrIndex},
		{24, 4095, long, api.ErrIndex},
		{0, 4096, "y", api.ErrLong},
		{0, 4096, "", api.OK},
	} {
		want(t, m.Burn(c.page, c.at, c.text), c.e)
	}
	for _, c := range []struct {
		page, at, n int
		e           api.Errno
	}{
		{24, 0, -1, api.ErrIndex}, {-1, 0, 4097, api.ErrIndex}, {0, -1, -1, api.ErrIndex}, {0, 4097, -1, api.ErrIndex}, {0, 4097, 0, api.ErrIndex},
		{0, 0, -1, api.ErrLong}, {0, 0, 4097, api.ErrLong}, {0, 4096, 1, api.ErrLong}, {0, 4096, 0, api.OK}, {0, 0, 0, api.OK}, {0, 4096, -1, api.ErrLong},
	} {
		text, e := m.Read(c.page, c.at, c.n)
		if text != "" {
			t.Errorf("Read(%d, %d, %d) = %q", c.page, c.at, c.n, text)
		}
		want(t, e, c.e)
	}
	want(t, m.Erase(-1), api.ErrIndex)
	want(t, m.Erase(24), api.ErrIndex)
	if m.Acts() != 2 {
		t.Error("acts:", m.Acts())
	}
	m.Arm(api.Cut{})
	want(t, m.Burn(1, 0), api.ErrDown)
	want(t, m.Burn(-1, -1, long), api.ErrDown)
	want(t, m.Burn(0, 4095, "yz"), api.ErrDown)
	want(t, m.Erase(99), api.ErrDown)
	if text, e := m.Read(-1, -1, -1); text != "" || e != api.ErrDown {
		t.Errorf("Read = %q, %d", text, e)
	}
	if m.Acts() != 3 || m.Bare(0) != 4096 || m.Worn(0) != 0 {
		t.Errorf("Acts %d, Bare %d, Worn %d", m.Acts(), m.Bare(0), m.Worn(0))
	}
}

// P7.1: no parts, empty ones, and many, are the bytes one behind the other.
func TestParts(t *testing.T) {
	for _, parts := range [][]string{nil, {}, {""}, {"", "", ""}, {"abc"}, {"a", "b", "c"}, {"", "a", "", "bc", ""}, {"é", "\x00", "\xc3"}, {"ab", "ab", "ab"}} {
		m := cells.New()
		text := strings.Join(parts, "")
		want(t, m.Burn(7, 10, parts...), api.OK)
		reads(t, m, 7, 9, "\xff"+text+"\xff")
		if n := m.Acts(); n != 1 {
			t.Errorf("%q: %d acts", parts, n)
		}
	}
	every := []string{}
	for i := range api.PageSize {
		every = append(every, string([]byte{byte(i * i >> 3)}))
	}
	m := cells.New()
	want(t, m.Burn(23, 0, append(every, "x")...), api.ErrLong)
	want(t, m.Burn(23, 1, every...), api.ErrLong)
	want(t, m.Burn(23, 0, every...), api.OK)
	reads(t, m, 23, 0, strings.Join(every, ""))
}

// P7.1: a byte 255 that is burnt is bare still: another one may be burnt in its place, and Bare passes over it at the end alone.
func TestBurntBare(t *testing.T) {
	b := newBoth(t)
	want(t, b.burn(2, 0, "\xff\xff\xff"), api.OK)
	b.holds()
	want(t, b.burn(2, 0, "a\xffc\xff"), api.OK)
	if n := b.c.Bare(2); n != 3 {
		t.Error("Bare is", n)
	}
	want(t, b.burn(2, 1, "b"), api.OK)
	want(t, b.burn(2, 2, "\xff"), api.ErrBurnt)
	want(t, b.burn(2, 0, "\xff"), api.ErrBurnt)
	want(t, b.burn(2, 0, "a"), api.ErrBurnt)
	want(t, b.burn(2, 3, "\xff\xffd"), api.OK)
	reads(t, b.c, 2, 0, "abc\xff\xffd\xff")
	want(t, b.burn(2, 4095, "\xff"), api.OK)
	want(t, b.burn(2, 4095, "\xfe"), api.OK)
	if n := b.c.Bare(2); n != 4096 {
		t.Error("Bare is", n)
	}
	b.bytes()
}

// P7.1: which byte of those whose places would be taken isn't bare is all one; a byte beside them is none of them.
func TestBurntAlready(t *testing.T) {
	for at := 10; at < 15; at++ {
		b := newBoth(t)
		want(t, b.burn(1, at, "\x00"), api.OK)
		want(t, b.burn(1, 10, "abcde"), api.ErrBurnt)
		want(t, b.burn(1, 10, "abcde"[:at-10]), api.OK)
		want(t, b.burn(1, at), api.OK)
		want(t, b.burn(1, at+1, "xyz"), api.OK)
		want(t, b.burn(2, 10, "abcde"), api.OK)
		b.bytes()
	}
	for _, burnt := range []string{"\x00", "\x01", "\x7f", "\x80", "\xfe"} {
		m := cells.New()
		want(t, m.Burn(0, 0, burnt), api.OK)
		want(t, m.Burn(0, 0, burnt), api.ErrBurnt)
	}
}

// P7.1: what an erasing lays bare is one page, wholly, and it may be burnt anew; each erasing counts, of a bare page, too.
func TestErase(t *testing.T) {
	b := newBoth(t)
	for page := range api.Pages {
		want(t, b.burn(page, 0, strings.Repeat(string([]byte{byte(page)}), 4096)), api.OK)
	}
	for page := range api.Pages {
		want(t, b.burn(page, 0, "x"), api.ErrBurnt)
		for range page {
			want(t, b.erase(page), api.OK)
		}
		b.bytes()
	}
	want(t, b.erase(0), api.OK)
	for page := range api.Pages {
		if n := b.c.Worn(page); n != max(page, 1) {
			t.Errorf("page %d: Worn %d", page, n)
		}
		want(t, b.burn(page, 0, "x"), api.OK)
	}
	b.bytes()
}

// P7.1 and P7.3: a cut comes at the act that it counts to, at none ahead of it, and refused calls, readings and questions count for nothing.
func TestCutCounts(t *testing.T) {
	for at := range 7 {
		b := newBoth(t)
		want(t, b.burn(5, 0, "x"), api.OK)
		b.arm(api.Cut{At: at, Part: 2})
		for i := range at {
			want(t, b.burn(4, 3*i, "abc"), api.OK)
			want(t, b.burn(4, 3*i, "abc"), api.ErrBurnt)
			want(t, b.burn(4, 4095, "abc"), api.ErrLong)
			want(t, b.burn(24, 0, "abc"), api.ErrIndex)
			want(t, b.erase(-1), api.ErrIndex)
			b.read(4, 0, 9)
			b.holds()
		}
		want(t, b.burn(4, 3*at, "abc"), api.ErrDown)
		want(t, b.burn(4, 3*at+3, "abc"), api.ErrDown)
		b.bytes()
		reads(t, b.c.Again(), 4, 3*at, "ab\xff\xff")
		if n := b.c.Acts(); n != at+2 {
			t.Errorf("cut at %d: %d acts", at, n)
		}
	}
}

// P7.1 and P7.3: parts of a burning and of an erasing: none, some, all, more than there are, below 0.
func TestCutParts(t *testing.T) {
	full := strings.Repeat("q", 4096)
	for _, part := range []int{math.MinInt, math.MinInt32, -1, 0, 1, 2, 3, 4, 4095, 4096, 4097, 1 << 32, math.MaxInt32, math.MaxInt} {
		b := newBoth(t)
		b.arm(api.Cut{At: 0, Part: part})
		want(t, b.burn(6, 4, "a", "bc", "d"), api.ErrDown)
		b.bytes()
		n := min(max(part, 0), 4)
		reads(t, b.c.Again(), 6, 3, "\xff"+"abcd"[:n]+blank[:5-n])

		b = newBoth(t)
		want(t, b.burn(6, 0, full), api.OK)
		want(t, b.burn(7, 0, full), api.OK)
		b.arm(api.Cut{At: 0, Part: part})
		want(t, b.erase(6), api.ErrDown)
		b.bytes()
		n = min(max(part, 0), 4096)
		reads(t, b.c.Again(), 6, 0, blank[:n]+full[n:])
		reads(t, b.c.Again(), 7, 0, full)
		if worn := b.c.Worn(6); worn != 1 {
			t.Errorf("part %d: Worn %d", part, worn)
		}

		b = newBoth(t)
		b.arm(api.Cut{At: 0, Part: part})
		want(t, b.burn(6, 4096), api.ErrDown)
		b.bytes()
	}
}

// P7.1: of several cuts with one At the one with the least Part counts, in whatever order they come; those with an At below 0 never come.
func TestCutOrder(t *testing.T) {
	for _, c := range []struct {
		cuts []api.Cut
		row  string // what is found of four burnings of "abc", of which a cut stops the rest
	}{
		{nil, "abcabcabcabc"},
		{[]api.Cut{{At: 0, Part: 1}, {At: 0, Part: 2}}, "a"},
		{[]api.Cut{{At: 0, Part: 2}, {At: 0, Part: 1}}, "a"},
		{[]api.Cut{{At: 0, Part: 2}, {At: 0, Part: 1}, {At: 0, Part: 3}}, "a"},
		{[]api.Cut{{At: 0, Part: 2}, {At: 0, Part: 0}, {At: 0, Part: 1}}, ""},
		{[]api.Cut{{At: 0, Part: 2}, {At: 0, Part: -7}, {At: 0, Part: 1}}, ""},
		{[]api.Cut{{At: 0, Part: 99}, {At: 0, Part: 98}}, "abc"},
		{[]api.Cut{{At: 1, Part: 2}, {At: 0, Part: 3}}, "abc"},
		{[]api.Cut{{At: 2, Part: 1}, {At: 3, Part: 0}, {At: 2, Part: 2}}, "abcabca"},
		{[]api.Cut{{At: -1, Part: 0}, {At: 3, Part: 1}}, "abcabcabca"},
		{[]api.Cut{{At: -1, Part: 0}, {At: math.MinInt, Part: 1}, {At: 4, Part: 1}, {At: math.MaxInt, Part: 1}}, "abcabcabcabc"},
		{[]api.Cut{{At: 1, Part: 1}, {At: 1, Part: 1}}, "abca"},
	} {
		b := newBoth(t)
		want(t, b.burn(9, 0, "ahead"), api.OK)
		b.arm(c.cuts...)
		for i := range 4 {
			b.burn(8, 3*i, "abc")
		}
		b.bytes()
		reads(t, b.c.Again(), 8, 0, c.row+blank[:20])
	}
}

// P7.1: arming puts cuts in the place of all before, and counts from then on.
func TestArmAnew(t *testing.T) {
	b := newBoth(t)
	b.arm(api.Cut{At: 0}, api.Cut{At: 1})
	b.arm()
	want(t, b.burn(0, 0, "a"), api.OK)
	want(t, b.burn(0, 1, "b"), api.OK)
	b.arm(api.Cut{At: 2, Part: 1})
	want(t, b.burn(0, 2, "c"), api.OK)
	want(t, b.erase(1), api.OK)
	b.arm(api.Cut{At: 1, Part: 2})
	want(t, b.burn(0, 3, "d"), api.OK)
	b.holds()
	want(t, b.burn(0, 4, "efg"), api.ErrDown)
	b.bytes()
	reads(t, b.c.Again(), 0, 0, "abcdef\xff")
	b.arm()
	want(t, b.burn(0, 6, "h"), api.ErrDown)
	b.arm(api.Cut{At: 5})
	want(t, b.erase(0), api.ErrDown)
	b.bytes()
}

// P7.1: a memory that is found again is up, has nothing armed and no acts, the same bytes, and is as worn; found a second time, the two are apart.
func TestAgain(t *testing.T) {
	b := newBoth(t)
	want(t, b.erase(3), api.OK)
	want(t, b.erase(3), api.OK)
	want(t, b.burn(3, 0, "ab"), api.OK)
	b.arm(api.Cut{At: 1, Part: 1}, api.Cut{At: 2}, api.Cut{At: 0, Part: 3}, api.Cut{At: 3})
	up := b.again() // of a memory that is up
	want(t, b.burn(3, 2, "cdef"), api.ErrDown)
	first, second := b.again(), b.again()
	for _, f := range []both{up, first, second} {
		if f.c.Acts() != 0 || f.c.Down() || f.c.Worn(3) != 2 {
			t.Fatalf("Acts %d, Down %t, Worn %d", f.c.Acts(), f.c.Down(), f.c.Worn(3))
		}
		f.bytes()
	}
	reads(t, up.c, 3, 0, "ab\xff")
	reads(t, first.c, 3, 0, "abcde\xff")
	for i := range 6 {
		want(t, first.burn(3, 5+i, "1"), api.OK)
	}
	second.arm(api.Cut{At: 1, Part: 4095})
	want(t, second.burn(3, 5, "2"), api.OK)
	want(t, second.erase(3), api.ErrDown)
	want(t, up.erase(3), api.OK)
	for _, f := range []both{b, up, first, second} {
		f.bytes()
	}
	third := second.again().again()
	want(t, third.burn(3, 0, "3"), api.OK)
	third.bytes()
	second.bytes()
	if n := []int{b.c.Worn(3), up.c.Worn(3), first.c.Worn(3), second.c.Worn(3)}; !slices.Equal(n, []int{2, 3, 2, 3}) {
		t.Error("worn:", n)
	}
	if n := []int{b.c.Acts(), up.c.Acts(), first.c.Acts(), second.c.Acts()}; !slices.Equal(n, []int{4, 1, 6, 2}) {
		t.Error("acts:", n)
	}
}

// R4 and R6: two memories have nothing to do with one another, and answer the same for the same calls.
func TestTwoMemories(t *testing.T) {
	a, b := newBoth(t), newBoth(t)
	a.arm(api.Cut{At: 2, Part: 1})
	want(t, a.burn(0, 0, "abc"), api.OK)
	b.bytes()
	want(t, b.burn(0, 0, "xyz"), api.OK)
	want(t, a.erase(1), api.OK)
	want(t, a.burn(1, 0, "abc"), api.ErrDown)
	want(t, b.burn(1, 0, "xyz"), api.OK)
	a.bytes()
	b.bytes()
}

// R5: lists that are handed in, and their spare memory, stay as they are, and the memory doesn't change with them.
func TestListsStay(t *testing.T) {
	parts := []string{"ab", "", "c", "spare"}
	cuts := []api.Cut{{At: 3, Part: 1}, {At: 1, Part: 2}, {At: 1, Part: 1}, {At: 0, Part: 0}}
	b := newBoth(t)
	b.arm(cuts[:3]...)
	cuts[1].At, cuts[2].At = 0, 0
	want(t, b.burn(0, 0, parts[:3]...), api.OK)
	parts[0] = "xx"
	want(t, b.burn(0, 3, parts[:2]...), api.ErrDown)
	b.bytes()
	reads(t, b.c.Again(), 0, 0, "abcx\xff")
	if !slices.Equal(parts, []string{"xx", "", "c", "spare"}) || !slices.Equal(cuts, []api.Cut{{At: 3, Part: 1}, {At: 0, Part: 2}, {At: 0, Part: 1}, {At: 0, Part: 0}}) {
		t.Errorf("changed: %q, %v", parts, cuts)
	}
}
