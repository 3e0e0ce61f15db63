package journal_test

import (
	"slices"
	"strings"
	"testing"

	"ballast/api"
	"ballast/cells"
	"ballast/journal"
)

// dice throws the same row of numbers each time.
type dice uint64

func (d *dice) throw(sides int) int {
	*d = *d*6364136223846793005 + 1442695040888963407
	return int(uint64(*d)>>33) % sides
}

// some gives one of the numbers.
func (d *dice) some(list ...int) int { return list[d.throw(len(list))] }

// bytes are so many, among them many that are bare, and many that are marks.
func (d *dice) bytes(n int) string {
	text := make([]byte, n)
	for i := range text {
		text[i] = byte(d.some(0, 1, 2, 255, 255, d.throw(256)))
	}
	return string(text)
}

// text is a record's, at times a frame's bytes, at times all bare.
func (d *dice) text() string {
	switch d.throw(8) {
	case 0:
		return strings.Repeat("\xff", d.some(0, 1, 6, 500, 1000))
	case 1:
		return "\x00\x01\x02" + d.bytes(d.throw(20))
	case 2, 3:
		return d.bytes(d.some(0, 1, 999, 1000))
	case 4:
		return d.bytes(d.throw(1001))
	}
	return d.bytes(d.throw(60))
}

func (d *dice) kind() int { return d.some(api.RecSafe, api.RecEvent, api.RecEvent, api.RecEvent) }

// book is a journal in its memory, and what is to be found of it.
type book struct {
	t    *testing.T
	m    *cells.Memory
	j    *journal.Journal
	list []api.Record // those that last
	cut  []api.Record // the one whose Append was cut off: it may last, or not
}

func newBook(t *testing.T) *book {
	t.Helper()
	b := &book{t: t, m: cells.New()}
	b.open()
	return b
}

// append appends, and holds what the call answers, and what the journal then is.
func (b *book) append(kind int, text string) api.Errno {
	b.t.Helper()
	down := b.j.Down()
	e := b.j.Append(kind, text)
	r := api.Record{N: len(b.list) + 1, Kind: kind, Text: text}
	switch {
	case e == api.OK && !down && !b.m.Down():
		b.list = append(b.list, r)
	case e != api.ErrDown || !b.m.Down():
		b.t.Fatalf("Append(%d, %q) = %d; the memory is down: %t", kind, text, e, b.m.Down())
	case !down:
		b.cut = []api.Record{r}
	}
	b.is(e == api.ErrDown)
	return e
}

// is holds what can be asked of the journal, twice.
func (b *book) is(down bool) {
	b.t.Helper()
	safe, known := lastSafe(b.list)
	for range 2 {
		text, ok := b.j.Safe()
		if text != safe || ok != known || b.j.Next() != len(b.list)+1 || b.j.Down() != down {
			b.t.Fatalf("Safe %q, %t, Next %d, Down %t; want %q, %t, %d, %t", text, ok, b.j.Next(), b.j.Down(), safe, known, len(b.list)+1, down)
		}
	}
}

// again lets the power come back, with these cuts ahead of the opening.
func (b *book) again(cuts ...api.Cut) {
	b.t.Helper()
	b.m = b.m.Again()
	b.m.Arm(cuts...)
	b.open()
}

// open opens, again and again where the power goes in it, and holds what is found.
func (b *book) open() {
	b.t.Helper()
	j, found, e := journal.Open(b.m)
	for e != api.OK {
		if j != nil || len(found) > 0 || e != api.ErrDown || !b.m.Down() {
			b.t.Fatalf("Open = %v, %d records, %d; the memory is down: %t", j, len(found), e, b.m.Down())
		}
		b.m = b.m.Again()
		j, found, e = journal.Open(b.m)
	}
	b.j = j
	if len(b.cut) > 0 && len(found) > 0 && found[len(found)-1] == b.cut[0] {
		b.list = append(b.list, b.cut...)
	}
	b.cut = nil
	b.holds(found)
	b.is(false)
}

// holds holds the records that are found: the last ones of all, at least sixteen of them.
func (b *book) holds(found []api.Record) {
	b.t.Helper()
	if len(found) < min(16, len(b.list)) || len(found) > len(b.list) {
		b.t.Fatalf("%d records are found of %d", len(found), len(b.list))
	}
	if last := b.list[len(b.list)-len(found):]; !slices.Equal(found, last) {
		b.t.Fatalf("found are the records %s, want %s", short(found), short(last))
	}
}

// copy is another book, in a memory of its own, that stands where this one does.
func (b *book) copy(t *testing.T) *book {
	t.Helper()
	a := &book{t: t, m: b.m.Again(), list: slices.Clone(b.list), cut: slices.Clone(b.cut)}
	a.open()
	return a
}

// fill appends thrown records, so many.
func (b *book) fill(d *dice, n int) {
	b.t.Helper()
	for range n {
		b.append(d.kind(), d.text())
	}
}

func lastSafe(list []api.Record) (string, bool) {
	for _, r := range slices.Backward(list) {
		if r.Kind == api.RecSafe {
			return r.Text, true
		}
	}
	return "", false
}

// short is a list of records in few bytes.
func short(list []api.Record) string {
	text := ""
	for _, r := range list {
		text += " " + string(rune('0'+r.N%10)) + ":" + r.Text[:min(4, len(r.Text))]
	}
	return text
}

// bytesOf are all bytes of a memory.
func bytesOf(t *testing.T, m *cells.Memory) string {
	t.Helper()
	var all [api.Pages]string
	for page := range all {
		text, e := m.Read(page, 0, api.PageSize)
		if e != api.OK {
			t.Fatalf("page %d: Read answers %d", page, e)
		}
		all[page] = text
	}
	return strings.Join(all[:], "")
}
