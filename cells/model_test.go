package cells_test

import (
	"strings"
	"testing"

	"ballast/api"
	"ballast/cells"
)

// dice throws the same row of numbers each time.
type dice uint64

func (d *dice) throw(sides int) int {
	*d = *d*6364136223846793005 + 1442695040888963407
	return int(uint64(*d) >> 33 % uint64(sides))
}

var blank = strings.Repeat("\xff", api.PageSize)

// model is a memory said another way: pages as texts, of which those that aren't listed are bare, and a list of cuts that is gone through at each act.
type model struct {
	pages map[int]string
	worn  map[int]int
	cuts  []api.Cut
	since int // acts since the arming
	acts  int
	down  bool
}

func newModel() *model { return &model{pages: map[int]string{}, worn: map[int]int{}} }

func (m *model) text(page int) string {
	if text, ok := m.pages[page]; ok {
		return text
	}
	return blank
}

// wrong tells which error comes first, but ErrBurnt.
func (m *model) wrong(page, at, n int) api.Errno {
	if m.down {
		return api.ErrDown
	}
	if page < 0 || page > 23 || at < 0 || at > 4096 {
		return api.ErrIndex
	}
	if n < 0 || n > 4096 || at+n > 4096 {
		return api.ErrLong
	}
	return api.OK
}

// act puts the text in the place of what the page has from at on, so far as the cuts let it.
func (m *model) act(page, at int, text string) api.Errno {
	cut, part := false, 0
	for _, c := range m.cuts {
		if c.At == m.since && (!cut || c.Part < part) {
			cut, part = true, c.Part
		}
	}
	m.since++
	m.acts++
	if cut && part < len(text) {
		text = text[:max(part, 0)]
	}
	was := m.text(page)
	m.pages[page] = was[:at] + text + was[at+len(text):]
	if cut {
		m.down = true
		return api.ErrDown
	}
	return api.OK
}

func (m *model) burn(page, at int, parts []string) api.Errno {
	text := ""
	for _, part := range parts {
		text += part
	}
	if e := m.wrong(page, at, len(text)); e != api.OK {
		return e
	}
	if strings.Count(m.text(page)[at:at+len(text)], "\xff") < len(text) {
		return api.ErrBurnt
	}
	return m.act(page, at, text)
}

func (m *model) erase(page int) api.Errno {
	if e := m.wrong(page, 0, 0); e != api.OK {
		return e
	}
	m.worn[page]++
	return m.act(page, 0, blank)
}

func (m *model) read(page, at, n int) (string, api.Errno) {
	if e := m.wrong(page, at, n); e != api.OK {
		return "", e
	}
	return m.text(page)[at : at+n], api.OK
}

func (m *model) bare(page int) int {
	text, ok := m.pages[page]
	if !ok {
		return 0
	}
	for strings.HasSuffix(text, "\xff") {
		text = text[:len(text)-1]
	}
	return len(text)
}

func (m *model) arm(cuts []api.Cut) { m.cuts, m.since = append([]api.Cut(nil), cuts...), 0 }

func (m *model) again() *model {
	a := newModel()
	for page, text := range m.pages {
		a.pages[page] = text
	}
	for page, n := range m.worn {
		a.worn[page] = n
	}
	return a
}

// both is a memory and what it should be; each call is made of both, and their answers are held against one another.
type both struct {
	t *testing.T
	c *cells.Memory
	m *model
}

func newBoth(t *testing.T) both { return both{t, cells.New(), newModel()} }

func (b both) burn(page, at int, parts ...string) api.Errno {
	b.t.Helper()
	e, want := b.c.Burn(page, at, parts...), b.m.burn(page, at, parts)
	if e != want {
		b.t.Fatalf("Burn(%d, %d, %q) = %d, want %d", page, at, parts, e, want)
	}
	return e
}

func (b both) erase(page int) api.Errno {
	b.t.Helper()
	e, want := b.c.Erase(page), b.m.erase(page)
	if e != want {
		b.t.Fatalf("Erase(%d) = %d, want %d", page, e, want)
	}
	return e
}

func (b both) read(page, at, n int) (string, api.Errno) {
	b.t.Helper()
	text, e := b.c.Read(page, at, n)
	wantText, want := b.m.read(page, at, n)
	if text != wantText || e != want {
		b.t.Fatalf("Read(%d, %d, %d) = %q, %d; want %q, %d", page, at, n, text, e, wantText, want)
	}
	return text, e
}

func (b both) arm(cuts ...api.Cut) {
	b.c.Arm(cuts...)
	b.m.arm(cuts)
}

func (b both) again() both { return both{b.t, b.c.Again(), b.m.again()} }

// holds holds what can be asked without changing the memory, of all pages and of some that are none, and asks twice.
func (b both) holds() {
	b.t.Helper()
	for range 2 {
		for page := -2; page < api.Pages+2; page++ {
			b.holdsPages(page)
		}
	}
}

func (b both) holdsPages(pages ...int) {
	b.t.Helper()
	if b.c.Acts() != b.m.acts || b.c.Down() != b.m.down {
		b.t.Fatalf("Acts %d, Down %t; want %d, %t", b.c.Acts(), b.c.Down(), b.m.acts, b.m.down)
	}
	for _, page := range pages {
		if b.c.Bare(page) != b.m.bare(page) || b.c.Worn(page) != b.m.worn[page] {
			b.t.Fatalf("page %d: Bare %d, Worn %d; want %d, %d", page, b.c.Bare(page), b.c.Worn(page), b.m.bare(page), b.m.worn[page])
		}
	}
}

// bytes holds all bytes: of the memory, and of the one that is found again.
func (b both) bytes() {
	b.t.Helper()
	found := b.again()
	for page := range api.Pages {
		b.read(page, 0, api.PageSize)
		found.read(page, 0, api.PageSize)
	}
	found.holds()
	b.holds()
}
