package journal_test

import (
	"math"
	"slices"
	"strings"
	"testing"

	"ballast/api"
	"ballast/cells"
	"ballast/journal"
)

// opened opens, and holds the records that are found, the safety state and the next number against what they should be.
func opened(t *testing.T, m *cells.Memory, safe string, known bool, records ...api.Record) *journal.Journal {
	t.Helper()
	j, found, e := journal.Open(m)
	if e != api.OK || !slices.Equal(found, records) {
		t.Fatalf("Open finds %v, %d; want %v", found, e, records)
	}
	if text, ok := j.Safe(); text != safe || ok != known {
		t.Errorf("Safe = %q, %t; want %q, %t", text, ok, safe, known)
	}
	if j.Next() != len(records)+1 || j.Down() {
		t.Errorf("Next %d, Down %t; want %d", j.Next(), j.Down(), len(records)+1)
	}
	return j
}

// appends holds an error of Append against what it should be.
func appends(t *testing.T, j *journal.Journal, kind int, text string, want api.Errno) {
	t.Helper()
	if e := j.Append(kind, text); e != want {
		t.Errorf("Append(%d, %.20q) = %d, want %d", kind, text, e, want)
	}
}

// P8.1, the chapter's first example.
func TestExample(t *testing.T) {
	m := cells.New()
	j := opened(t, m, "", false)
	appends(t, j, api.RecSafe, "a", api.OK)
	appends(t, j, api.RecEvent, "b", api.OK)
	j = opened(t, m.Again(), "a", true, api.Record{N: 1, Kind: 1, Text: "a"}, api.Record{N: 2, Kind: 2, Text: "b"})
	if j.Next() != 3 {
		t.Error("Next is", j.Next())
	}
}

// P8.1 and P8.2, the chapter's second example.
func TestCutExample(t *testing.T) {
	m := cells.New()
	j := opened(t, m, "", false)
	appends(t, j, api.RecSafe, "a", api.OK)
	m.Arm(api.Cut{At: 0, Part: 3})
	appends(t, j, api.RecEvent, "b", api.ErrDown)
	j = opened(t, m.Again(), "a", true, api.Record{N: 1, Kind: 1, Text: "a"})
	if j.Next() != 2 {
		t.Error("Next is", j.Next())
	}
}

// P8.1: a bare memory's journal has nothing, and opening it leaves it bare.
func TestBareMemory(t *testing.T) {
	m := cells.New()
	for range 3 {
		opened(t, m, "", false)
		m = m.Again()
	}
	if bytesOf(t, m) != strings.Repeat("\xff", api.Pages*api.PageSize) {
		t.Error("a bare memory was burnt by opening it")
	}
}

// P8.1: kinds that are and that are none, and the error that comes first, of a journal that is up, and of one that is down.
func TestKinds(t *testing.T) {
	m := cells.New()
	j := opened(t, m, "", false)
	long := strings.Repeat("x", 1001)
	for range 2 {
		for _, kind := range []int{math.MinInt, -257, -2, -1, 0, 3, 4, 255, 256, 257, 258, 1<<32 + 1, math.MaxInt} {
			for _, text := range []string{"", "a", long} {
				appends(t, j, kind, text, api.ErrKind)
			}
		}
		for _, kind := range []int{api.RecSafe, api.RecEvent} {
			appends(t, j, kind, long, api.ErrLong)
			appends(t, j, kind, long+long, api.ErrLong)
		}
		if j.Next() != 1 {
			t.Error("what was refused has a number: Next is", j.Next())
		}
		m.Arm(api.Cut{})
		j.Append(api.RecSafe, "")
		appends(t, j, api.RecSafe, long[1:], api.ErrDown)
	}
	if !j.Down() {
		t.Error("it isn't down")
	}
	opened(t, m.Again(), "", false)
}

// P8.1: what is refused for its kind or its length is neither an act, nor does it take the journal down.
func TestRefusedIsNothing(t *testing.T) {
	m := cells.New()
	j := opened(t, m, "", false)
	appends(t, j, api.RecSafe, "a", api.OK)
	acts, bytes := m.Acts(), bytesOf(t, m)
	appends(t, j, 3, "b", api.ErrKind)
	appends(t, j, api.RecSafe, strings.Repeat("b", 1001), api.ErrLong)
	if m.Acts() != acts || bytesOf(t, m) != bytes || j.Down() || j.Next() != 2 {
		t.Error("something was done")
	}
	if safe, ok := j.Safe(); safe != "a" || !ok {
		t.Errorf("Safe = %q, %t", safe, ok)
	}
	appends(t, j, api.RecEvent, "c", api.OK)
	opened(t, m.Again(), "a", true, api.Record{N: 1, Kind: 1, Text: "a"}, api.Record{N: 2, Kind: 2, Text: "c"})
}

// P8.1: texts of all lengths up to 1000 bytes, of either kind, of bytes of each value.
func TestLengths(t *testing.T) {
	for _, fill := range []string{"\x00", "\xff", "\xfe", "z"} {
		b := newBook(t)
		for n := 0; n <= 1000; n++ {
			b.append(api.RecSafe+n%2, strings.Repeat(fill, n))
			if n%50 == 0 {
				b.again()
			}
		}
		b.again()
	}
	b := newBook(t)
	for n := range 256 {
		b.append(api.RecSafe, string([]byte{byte(n)}))
		b.append(api.RecEvent, string([]byte{byte(n), byte(n), 255}))
		b.again()
	}
}

// P8.1: a memory that is down can't be opened; a journal whose memory goes down, by whatever act, is down.
func TestDownMemory(t *testing.T) {
	b := newBook(t)
	b.append(api.RecSafe, "a")
	b.m.Arm(api.Cut{At: 0, Part: 100})
	if e := b.m.Burn(23, 0, "x"); e != api.ErrDown {
		t.Fatal("the memory isn't down:", e)
	}
	b.is(true)
	j, found, e := journal.Open(b.m)
	if j != nil || found != nil || e != api.ErrDown {
		t.Errorf("Open = %v, %v, %d", j, found, e)
	}
	acts := b.m.Acts()
	appends(t, b.j, api.RecSafe, "b", api.ErrDown)
	b.is(true)
	if b.m.Acts() != acts {
		t.Error("a memory that is down was worked on")
	}
	b.again()
	if len(b.list) != 1 {
		t.Error("found:", b.list)
	}
}

// P8.1: behind an answer of ErrDown a journal is down, even over a memory whose power is back.
func TestDownStays(t *testing.T) {
	m := cells.New()
	j := opened(t, m, "", false)
	appends(t, j, api.RecSafe, "a", api.OK)
	m.Arm(api.Cut{Part: 1})
	appends(t, j, api.RecSafe, "b", api.ErrDown)
	*m = *m.Again()
	if m.Down() || !j.Down() {
		t.Errorf("Down: the memory %t, the journal %t", m.Down(), j.Down())
	}
	appends(t, j, api.RecEvent, "c", api.ErrDown)
	if m.Acts() != 0 {
		t.Error("a journal that is down has worked on its memory")
	}
	opened(t, m, "a", true, api.Record{N: 1, Kind: 1, Text: "a"})
}

// R4, R5, R6: journals in memories of their own have nothing to do with one another; the same calls give the same answers, and the same bytes; what is found is the caller's own.
func TestApart(t *testing.T) {
	a, b := newBook(t), newBook(t)
	a.fill(new(dice), 50)
	b.append(api.RecSafe, "b")
	c := a.copy(t)
	c.fill(new(dice), 40)
	a.is(false)
	b.is(false)
	b.again()
	again := newBook(t)
	again.fill(new(dice), 50)
	if bytesOf(t, again.m) != bytesOf(t, a.m) {
		t.Error("the same calls have burnt other bytes")
	}
	_, found, _ := journal.Open(a.m)
	for i := range found {
		found[i] = api.Record{}
	}
	a.is(false)
	a.open()
	c.again()
}

// P8.2, P8.3: the safety state is the last one of its kind, whatever events come behind it, on its own page and on others, and on all pages in turns.
func TestSafeLasts(t *testing.T) {
	t.Parallel()
	for _, state := range []string{"", "\xff", "state", strings.Repeat("s", 1000), strings.Repeat("\xff", 1000)} {
		for _, ahead := range []int{0, 1, 3, 4, 30} {
			b := newBook(t)
			for range ahead {
				b.append(api.RecEvent, strings.Repeat("e", 990))
			}
			b.append(api.RecSafe, "another")
			b.append(api.RecSafe, state)
			for n := range 150 {
				b.append(api.RecEvent, strings.Repeat("v", 1000-n%8))
				if n < 8 || n%20 == 0 {
					b.again()
				}
			}
			b.again()
			if safe, ok := b.j.Safe(); safe != state || !ok {
				t.Errorf("Safe = %q, %t; want %q", safe, ok, state)
			}
		}
	}
}

// P8.1: without a safety state there is none, however many events there are.
func TestNeverSafe(t *testing.T) {
	b := newBook(t)
	for range 200 {
		b.append(api.RecEvent, strings.Repeat("e", 1000))
	}
	b.again()
	if safe, ok := b.j.Safe(); safe != "" || ok {
		t.Errorf("Safe = %q, %t", safe, ok)
	}
	b.append(api.RecSafe, "")
	b.again()
	if _, ok := b.j.Safe(); !ok {
		t.Error("a safety state without bytes is none")
	}
}
