package journal_test

import (
	"slices"
	"strings"
	"testing"

	"ballast/api"
	"ballast/cells"
	"ballast/journal"
	"ballast/pack"
	"ballast/seal"
)

// goesOn opens a memory that somebody else burnt, holds that what is found is a row of records, and that the journal goes on behind it.
func goesOn(t *testing.T, m *cells.Memory) []api.Record {
	t.Helper()
	j, found, e := journal.Open(m)
	if e != api.OK {
		t.Fatal("Open answers", e)
	}
	first := j.Next() - len(found)
	for i, r := range found {
		if r.N != first+i || r.Kind != api.RecSafe && r.Kind != api.RecEvent || len(r.Text) > 1000 {
			t.Fatalf("record %d of %d: %d, %d, %.20q", i, len(found), r.N, r.Kind, r.Text)
		}
	}
	safe, known := j.Safe()
	if first < 1 || !known && safe != "" || len(safe) > 1000 || j.Down() {
		t.Fatalf("first %d, Safe %q, %t, Down %t", first, safe, known, j.Down())
	}
	if state, ok := lastSafe(found); ok && (state != safe || !known) {
		t.Fatalf("Safe %q, %t, found %q", safe, known, state)
	}
	b := &book{t: t, m: m, j: j}
	for n, text := range []string{"a", strings.Repeat("b", 1000), "c", strings.Repeat("d", 1000), strings.Repeat("e", 1000), strings.Repeat("f", 1000)} {
		appends(t, j, api.RecEvent-n%2, text, api.OK)
		next := j.Next()
		var again []api.Record
		if j, again, e = journal.Open(b.m.Again()); e != api.OK || j.Next() != next || len(again) == 0 {
			t.Fatalf("Open behind record %d: %d records, %d", next-1, len(again), e)
		}
		if last := again[len(again)-1]; last != (api.Record{N: next - 1, Kind: api.RecEvent - n%2, Text: text}) {
			t.Fatalf("the last record is %d, %d, %.20q", last.N, last.Kind, last.Text)
		}
		if n%3 == 2 {
			b.m = b.m.Again()
		}
		j, _, _ = journal.Open(b.m)
	}
	return found
}

// burnt is a memory with these texts on its first pages.
func burnt(t *testing.T, pages ...string) *cells.Memory {
	t.Helper()
	m := cells.New()
	for page, text := range pages {
		if e := m.Burn(page, 0, text); e != api.OK {
			t.Fatalf("page %d: Burn answers %d", page, e)
		}
	}
	return m
}

// R1, P8.1: memories full of one byte, and of thrown bytes, are read as far as it goes.
func TestStrangeBytes(t *testing.T) {
	t.Parallel()
	for n := range 256 {
		text := strings.Repeat(string([]byte{byte(n)}), api.PageSize)
		goesOn(t, burnt(t, text))
		goesOn(t, burnt(t, slices.Repeat([]string{text}, api.Pages)...))
	}
	d := dice(9)
	for range 30 {
		var pages []string
		for range api.Pages {
			pages = append(pages, d.bytes(d.some(0, 1, 8, 4095, 4096)))
		}
		goesOn(t, burnt(t, pages...))
	}
}

// framed is a frame with the mark behind it, as the journal burns them.
func framed(parts ...string) string {
	frame, _ := seal.Seal(parts...)
	return frame + "\x00"
}

// head is a sheet's head.
func head(nth, first, kind int, state string) string {
	w := pack.New(9)
	w.Long(nth, first)
	w.Byte(kind)
	text, _ := w.Done()
	return framed(text, state)
}

// R1, P8.1: pages that are nearly a journal's: with numbers, kinds, lengths and ends that no journal burns.
func TestStrangePages(t *testing.T) {
	record := framed("\x02", "r")
	for _, c := range []struct {
		name  string
		pages []string
		found int
		safe  string
		next  int
	}{
		{"a page as a journal burns it", []string{head(0, 1, 0, "") + record + record}, 2, "", 3},
		{"with a state", []string{head(0, 1, 1, "state") + record}, 1, "state", 2},
		{"with a state and another", []string{head(0, 1, 1, "state") + framed("\x01", "other") + record}, 2, "other", 3},
		{"a number of 0", []string{head(0, 0, 0, "") + record}, 0, "", 1},
		{"a number of 2", []string{head(0, 2, 0, "") + record}, 1, "", 3},
		{"the greatest number", []string{head(0, 1<<31-1, 0, "") + record}, 1, "", 1 << 31},
		{"too great a number", []string{head(0, 1<<31, 0, "") + record}, 0, "", 1},
		{"the greatest number of all", []string{head(0, 1<<32-1, 0, "") + record}, 0, "", 1},
		{"a sheet on the wrong page", []string{head(1, 1, 0, "") + record}, 0, "", 1},
		{"a sheet of another turn", []string{head(24, 1, 0, "") + record}, 1, "", 2},
		{"the greatest sheet", []string{"", "", "", "", "", "", "", head(1<<31-1, 1, 0, "") + record}, 1, "", 2},
		{"too great a sheet", []string{"", "", "", "", "", "", "", "", head(1<<31, 1, 0, "") + record}, 0, "", 1},
		{"no state, but its text", []string{head(0, 1, 0, "state") + record}, 1, "", 2},
		{"a state's kind that is none", []string{head(0, 1, 2, "state") + record}, 1, "", 2},
		{"a state of 1000 bytes", []string{head(0, 1, 1, strings.Repeat("s", 1000)) + record}, 1, strings.Repeat("s", 1000), 2},
		{"a state of 1001 bytes", []string{head(0, 1, 1, strings.Repeat("s", 1001)) + record}, 0, "", 1},
		{"a short head", []string{framed("\x00\x00\x00\x00\x00\x00\x00\x01") + record}, 0, "", 1},
		{"no head", []string{framed() + record}, 0, "", 1},
		{"a head without its mark", []string{strings.TrimSuffix(head(0, 1, 0, ""), "\x00") + record}, 0, "", 1},
		{"a record without its mark", []string{head(0, 1, 0, "") + record + record[:len(record)-1]}, 1, "", 2},
		{"another mark", []string{head(0, 1, 0, "") + record + record[:len(record)-1] + "\x01" + record}, 1, "", 2},
		{"a record without a kind", []string{head(0, 1, 0, "") + record + framed() + record}, 1, "", 2},
		{"a kind that is none", []string{head(0, 1, 0, "") + record + framed("\x03", "r") + record}, 1, "", 2},
		{"a record of 1000 bytes", []string{head(0, 1, 0, "") + framed("\x01", strings.Repeat("t", 1000)) + record}, 2, strings.Repeat("t", 1000), 3},
		{"a record of 1001 bytes", []string{head(0, 1, 0, "") + record + framed("\x01", strings.Repeat("t", 1001)) + record}, 1, "", 2},
		{"a bare gap", []string{head(0, 1, 0, "") + record + "\xff" + record}, 1, "", 2},
		{"two sheets", []string{head(0, 1, 0, "") + record, head(1, 2, 1, "x") + record}, 2, "x", 3},
		{"two sheets, and a gap of a record", []string{head(0, 1, 0, "") + record, head(1, 3, 0, "") + record}, 1, "", 4},
		{"two sheets, and a record too many", []string{head(0, 1, 0, "") + record + record, head(1, 2, 0, "") + record}, 1, "", 3},
		{"two sheets, and a gap of a sheet", []string{head(0, 1, 0, "") + record, head(25, 2, 0, "") + record}, 1, "", 3},
		{"an older sheet behind", []string{head(24, 2, 0, "") + record, head(1, 1, 0, "") + record}, 1, "", 3},
		{"three sheets, the middle one without records", []string{head(0, 1, 0, "") + record, head(1, 2, 0, ""), head(2, 2, 0, "") + record}, 2, "", 3},
	} {
		t.Run(c.name, func(t *testing.T) {
			m := burnt(t, c.pages...)
			j, found, e := journal.Open(m)
			if e != api.OK || len(found) != c.found || j.Next() != c.next {
				t.Fatalf("found %d, Next %d, %d; want %d, %d", len(found), j.Next(), e, c.found, c.next)
			}
			if safe, ok := j.Safe(); safe != c.safe || ok != (c.safe != "") {
				t.Errorf("Safe %q, %t; want %q", safe, ok, c.safe)
			}
			goesOn(t, m)
		})
	}
}

// R1, P8.1: a frame that just ends where the page does has no room for its mark.
func TestPageEnd(t *testing.T) {
	text := head(0, 1, 0, "")
	for len(text) < api.PageSize-600 {
		text += framed("\x02", strings.Repeat("e", 500))
	}
	last, _ := seal.Seal("\x02", strings.Repeat("f", api.PageSize-len(text)-7))
	found := goesOn(t, burnt(t, text+last))
	if len(found) != 7 {
		t.Error("found:", len(found))
	}
}

// R1, P8.1: a journal's pages with some bytes changed by somebody else.
func TestSpoiltPages(t *testing.T) {
	t.Parallel()
	d := dice(21)
	b := newBook(t)
	b.fill(&d, 300)
	for range 200 {
		m := b.m.Again()
		for range d.some(1, 1, 3, 40) {
			page, at := d.throw(api.Pages), d.some(0, 1, 2, 5, 9, d.throw(60), d.throw(api.PageSize))
			text, _ := m.Read(page, 0, api.PageSize)
			m.Erase(page)
			m.Burn(page, 0, text[:at], d.bytes(1), text[at+1:])
		}
		goesOn(t, m)
	}
}
