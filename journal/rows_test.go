package journal_test

import (
	"strings"
	"testing"

	"ballast/api"
)

// P8.1: long rows of thrown appendings and openings, through all pages many times over.
func TestRows(t *testing.T) {
	t.Parallel()
	for seed := range 6 {
		d, b := dice(seed), newBook(t)
		for range 60 {
			b.fill(&d, d.some(0, 1, 2, 5, 20, 60))
			b.again()
			if d.throw(2) == 0 {
				b.open()
			}
		}
		if len(b.list) < 400 || b.m.Worn(api.Pages-1) == 0 {
			t.Errorf("%d records: not all pages were taken twice", len(b.list))
		}
	}
}

// P8.1: each row of few appendings of short and long texts, opened behind each.
func TestEachRow(t *testing.T) {
	t.Parallel()
	texts := []string{"", "\xff", strings.Repeat("t", 500), strings.Repeat("u", 1000)}
	const calls, kinds = 5, 4
	rows := 1
	for range calls {
		rows *= kinds
	}
	for n := range rows {
		b := newBook(t)
		for i := range calls {
			b.append(api.RecSafe+(n+i)%2, texts[n%kinds])
			b.again()
			n /= kinds
		}
	}
}

// P8.1, P8.4: a record of each length at a page's end: it fits, just fits, or goes to another page.
func TestPageFilled(t *testing.T) {
	t.Parallel()
	start := newBook(t)
	for range 3 {
		start.append(api.RecSafe, strings.Repeat("p", 1000))
	}
	for n := range 1001 {
		b := start.copy(t)
		b.append(api.RecSafe, strings.Repeat("q", n))
		b.again()
		b.append(api.RecEvent, "\xff")
		b.again()
	}
}

// P8.4: there is room however many records are appended; the last sixteen of them are found, however long their texts are.
func TestRoom(t *testing.T) {
	t.Parallel()
	for _, size := range []int{0, 40, 1000} {
		b := newBook(t)
		text := strings.Repeat("r", size)
		for n := range 20000 {
			kind := api.RecEvent
			if n%700 == 0 {
				kind = api.RecSafe
			}
			if e := b.j.Append(kind, text); e != api.OK {
				t.Fatalf("record %d of %d bytes: %d", n+1, size, e)
			}
			b.list = append(b.list, api.Record{N: n + 1, Kind: kind, Text: text})
			if n%1000 < 2 {
				b.again()
			}
		}
		b.is(false)
		b.again()
	}
}

// P8.4: there is room however often the journal is opened, and nothing is lost by opening it.
func TestManyOpenings(t *testing.T) {
	t.Parallel()
	b := newBook(t)
	for n := range 400 {
		for range 10 {
			b.again()
		}
		if n%7 == 0 {
			b.append(api.RecSafe, strings.Repeat("o", n))
		}
	}
	if len(b.list) != 58 {
		t.Error("records:", len(b.list))
	}
}

// P8.2, P8.4: thrown rows in which the power goes again and again, in appendings and in openings.
func TestThrownCuts(t *testing.T) {
	t.Parallel()
	downs := 0
	for seed := range 30 {
		d, b := dice(100+seed), newBook(t)
		for range 300 {
			if b.m.Down() {
				downs++
				b.again(d.cuts()...)
			}
			if b.append(d.kind(), d.text()) == api.OK && d.throw(4) == 0 {
				b.m.Arm(d.cuts()...)
			}
		}
		b.again()
		if len(b.list) < 100 {
			t.Error("records:", len(b.list))
		}
	}
	if downs < 1000 {
		t.Error("losses of power:", downs)
	}
}

// cuts are none, one, or some.
func (d *dice) cuts() []api.Cut {
	list := make([]api.Cut, d.some(0, 1, 1, 3))
	for i := range list {
		list[i] = api.Cut{At: d.throw(5) - 1, Part: d.some(-1, 0, 1, 2, 3, 7, 8, 9, 4095, 4096, 5000, d.throw(1100), d.throw(4096))}
	}
	return list
}

// P8.2, P8.4: the power goes in each appending, many times in a row, so that no record comes through; those ahead of them stay.
func TestNoneComesThrough(t *testing.T) {
	t.Parallel()
	for _, at := range []int{0, 1, 2} {
		for _, part := range []int{-1, 0, 1, 2, 3, 6, 9, 500, 1007} {
			for _, size := range []int{1000, 998, 10} {
				d, b := dice(at+part), newBook(t)
				b.fill(&d, 90)
				for range 60 {
					b.again(api.Cut{At: at, Part: part})
					for b.append(api.RecEvent, strings.Repeat("n", size)) == api.OK {
					}
				}
				b.again()
			}
		}
	}
}
