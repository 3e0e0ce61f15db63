package cells_test

import (
	"strings"
	"testing"

	"ballast/api"
	"ballast/cells"
)

// oneCall makes the nth of a few calls, of which each changes something, or is refused.
func oneCall(b both, n int) both {
	switch n {
	case 0:
		b.burn(0, 0, "a", "b")
	case 1:
		b.burn(0, 1, "c\xffd")
	case 2:
		b.burn(1, 4095, "\xff")
	case 3:
		b.erase(0)
	case 4:
		b.arm(api.Cut{At: 1, Part: 1})
	case 5:
		b.arm(api.Cut{At: 0, Part: 2}, api.Cut{At: 2, Part: 0}, api.Cut{At: 0, Part: 3})
	case 6:
		return b.again()
	}
	return b
}

// P7.1: all rows of five of these calls answer as the model does.
func TestEachRow(t *testing.T) {
	const calls, kinds = 5, 7
	rows := 1
	for range calls {
		rows *= kinds
	}
	fresh := newBoth(t)
	for n := range rows {
		b := fresh.again() // a bare memory, as a new one is, but made faster
		for range calls {
			b = oneCall(b, n%kinds)
			n /= kinds
		}
		b.holdsPages(0, 1)
		b.read(0, 0, 5)
		found := b.again()
		found.read(0, 0, 5)
		found.holdsPages(0, 1)
	}
}

// some gives one of the numbers.
func (d *dice) some(list ...int) int { return list[d.throw(len(list))] }

func (d *dice) page() int {
	if d.throw(25) == 0 {
		return d.some(-1, 24, 100)
	}
	return d.some(0, 1, 22, 23)
}

func (d *dice) place() int {
	if d.throw(3) == 0 {
		return d.some(-1, 0, 1, 4080, 4094, 4095, 4096, 4097)
	}
	return d.throw(4096)
}

// parts are some texts of bytes of which many are bare.
func (d *dice) parts() []string {
	list := make([]string, d.throw(4))
	for i := range list {
		bytes := make([]byte, d.some(0, 1, 2, 5, 40, d.throw(1500)))
		for k := range bytes {
			bytes[k] = byte(d.some(0, 65, 254, 255, 255, 255, d.throw(256)))
		}
		list[i] = string(bytes)
	}
	return list
}

func (d *dice) cuts() []api.Cut {
	list := make([]api.Cut, d.throw(5))
	for i := range list {
		list[i] = api.Cut{At: d.throw(14) - 2, Part: d.some(-1, 0, 1, 2, 50, 4095, 4096, 5000, d.throw(4096))}
	}
	return list
}

// oneThrow makes a call that is thrown, and answers the memory with which it goes on.
func oneThrow(d *dice, b both) both {
	switch d.throw(12) {
	case 0, 1:
		b.erase(d.page())
	case 2:
		b.arm(d.cuts()...)
	case 3, 4:
		b.read(d.page(), d.place(), d.some(-1, 0, 1, 30, 4096, d.throw(4096)))
	case 5:
		if b.m.down || d.throw(6) == 0 {
			b.bytes()
			return b.again()
		}
	case 6:
		page := d.page()
		b.burn(page, b.m.bare(page), d.parts()...)
	default:
		b.burn(d.page(), d.place(), d.parts()...)
	}
	return b
}

// P7.1: long rows of calls that are thrown, losses of power among them, answer as the model does.
func TestThrownRows(t *testing.T) {
	d := dice(7)
	downs, burnt := 0, 0
	for range 60 {
		b := newBoth(t)
		for range 200 {
			next := oneThrow(&d, b)
			if next.c != b.c && b.m.down {
				downs++
			}
			b = next
			b.holds()
		}
		b.bytes()
		burnt += b.m.bare(0)
	}
	if downs < 60 || burnt == 0 {
		t.Errorf("%d losses of power, %d places burnt", downs, burnt)
	}
}

// P7.2: between two erasings no byte that isn't bare changes, however often the power goes.
func TestBurntStays(t *testing.T) {
	d := dice(11)
	for range 20 {
		m := cells.New()
		was := strings.Repeat("\xff", api.PageSize)
		for n := range 60 {
			m.Arm(d.cuts()...)
			e := m.Burn(17, d.place(), d.parts()...)
			m.Burn(16, 0, "other")
			if m.Down() || n%7 == 0 {
				m = m.Again()
			}
			if n%5 == 0 {
				m.Erase(16)
				m = m.Again()
			}
			is, _ := m.Read(17, 0, api.PageSize)
			if e != api.OK && e != api.ErrDown && is != was {
				t.Fatalf("a call that answered %d has changed the page", e)
			}
			for i := range was {
				if was[i] != 255 && is[i] != was[i] {
					t.Fatalf("place %d was %d, is %d", i, was[i], is[i])
				}
			}
			was = is
		}
		if m.Bare(17) == 0 || m.Worn(17) != 0 || m.Worn(16) == 0 {
			t.Error("nothing was burnt, or something else was erased")
		}
	}
}

// deed is an act: a burning, or (without a text) an erasing.
type deed struct {
	page, at int
	text     string
}

var deeds = []deed{{2, 0, "abc"}, {2, 3, "de"}, {3, 4090, "uvwxyz"}, {2, 0, ""}, {2, 1, "fgh"}, {3, 0, ""}, {3, 4095, "i"}, {2, 0, "j"}}

func (a deed) do(m *cells.Memory) api.Errno {
	if a.text == "" {
		return m.Erase(a.page)
	}
	return m.Burn(a.page, a.at, a.text)
}

// size is how many bytes the act is on.
func (a deed) size() int {
	if a.text == "" {
		return api.PageSize
	}
	return len(a.text)
}

// pageOf gives the bytes of a page.
func pageOf(t *testing.T, m *cells.Memory, page int) string {
	t.Helper()
	text, e := m.Read(page, 0, api.PageSize)
	if e != api.OK {
		t.Fatalf("page %d: Read answers %d", page, e)
	}
	return text
}

// P7.3: wherever a row of acts is cut, those ahead of the cut happened wholly, the cut one by its first bytes, those behind it not at all.
func TestCutRow(t *testing.T) {
	for cut, a := range deeds {
		for _, part := range []int{-1, 0, 1, 2, 3, 4, 5, 6, 4094, 4095, 4096, 4097} {
			ahead, behind, m := cells.New(), cells.New(), cells.New()
			for n, b := range deeds[:cut+1] {
				if n < cut {
					want(t, b.do(ahead), api.OK)
				}
				want(t, b.do(behind), api.OK)
			}
			m.Arm(api.Cut{At: cut, Part: part}, api.Cut{At: cut + 1, Part: 1})
			for n, b := range deeds {
				if e := b.do(m); (e == api.OK) != (n < cut) || (e == api.ErrDown) != (n >= cut) {
					t.Fatalf("cut at %d: act %d answers %d", cut, n, e)
				}
			}
			found := m.Again()
			for page := range api.Pages {
				should := pageOf(t, ahead, page)
				if page == a.page {
					to := a.at + min(max(part, 0), a.size())
					should = should[:a.at] + pageOf(t, behind, page)[a.at:to] + should[to:]
				}
				if pageOf(t, found, page) != should {
					t.Fatalf("cut at %d, part %d: page %d is another one", cut, part, page)
				}
			}
			if m.Acts() != cut+1 || !m.Down() || found.Acts() != 0 || found.Down() {
				t.Fatalf("cut at %d: Acts %d, Down %t", cut, m.Acts(), m.Down())
			}
		}
	}
}
