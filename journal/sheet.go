package journal

import (
	"slices"
	"strings"

	"ballast/api"
	"ballast/cells"
	"ballast/pack"
	"ballast/seal"
)

// How many bytes stand ahead of the text, in a sheet's head, and in a record.
const (
	headWidth   = 9
	recordWidth = 1
)

// mark stands behind each frame. It isn't bare, and is burnt last: a frame that was cut off has none, whatever it reads as.
const mark = "\x00"

// unknown stands in a sheet's head in the place of RecSafe, if there is no safety state.
const unknown = 0

// greatest is the greatest number that a sheet, or a sheet's first record, can have: what has a greater one was burnt by somebody else.
const greatest = 1<<31 - 1

// sheet is a page as a journal burns it: a head, and records. Sheets are numbered from 0 on, and take the pages in turns.
type sheet struct {
	safety  // as it was ahead of the records, since the pages that have it are erased one day
	nth     int
	first   int // the number of its first record, whether there is one or not
	records []api.Record
	end     int // the place behind all that is whole
}

// next: the number of the record behind its last one.
func (s *sheet) next() int { return s.first + len(s.records) }

// follows: do its records go on where the other's end?
func (s *sheet) follows(other *sheet) bool {
	return s.nth == other.nth+1 && s.first == other.next()
}

// pageOf: the page that a sheet takes.
func pageOf(nth int) int { return nth % api.Pages }

// headFrame: a sheet's head as it is burnt. Its numbers fit, for greatest is far from what a Long can hold.
func headFrame(nth, first int, s safety) string {
	kind := unknown
	if s.known {
		kind = api.RecSafe
	}
	w := pack.New(headWidth)
	w.Long(nth, first)
	w.Byte(kind)
	return framed(w, s.state)
}

// recordFrame: a record as it is burnt. Its number follows from the sheet's head.
func recordFrame(r api.Record) string {
	w := pack.New(recordWidth)
	w.Byte(r.Kind)
	return framed(w, r.Text)
}

// framed: the frame of what was written and the texts, with its mark. They are never too long: a text of maxText bytes leaves room for a head.
func framed(w *pack.Writer, texts ...string) string {
	written, _ := w.Done()
	frame, _ := seal.Seal(written, strings.Join(texts, ""))
	return frame + mark
}

// sheets: those that are found, in their order: the last one, and as many ahead of it as go on to it without a gap.
func sheets(m *cells.Memory) []sheet {
	var list []sheet
	for page := range api.Pages {
		text, _ := m.Read(page, 0, api.PageSize)
		if s, ok := readSheet(text); ok && pageOf(s.nth) == page {
			list = append(list, s)
		}
	}
	slices.SortFunc(list, func(a, b sheet) int { return a.nth - b.nth })
	at := max(len(list)-1, 0)
	for at > 0 && list[at].follows(&list[at-1]) {
		at--
	}
	return list[at:]
}

// readSheet: the sheet that a page's bytes are, if they are one.
func readSheet(text string) (sheet, bool) {
	body, at, ok := whole(text, 0)
	if !ok {
		return sheet{}, false
	}
	r := pack.Read(body)
	s := sheet{nth: r.Long(), first: r.Long()}
	kind, state := r.Byte(), rest(body, r)
	if r.End() == api.ErrShort || max(s.nth, s.first) > greatest || s.first < 1 || len(state) > maxText {
		return sheet{}, false
	}
	s.note(api.Record{Kind: kind, Text: state})
	s.records, s.end = readRecords(text, at, s.first)
	return s, true
}

// readRecords: the records from a place on, numbered from n on, and the place behind them.
func readRecords(text string, at, n int) ([]api.Record, int) {
	var list []api.Record
	for {
		body, end, ok := whole(text, at)
		if !ok {
			return list, at
		}
		r := pack.Read(body)
		kind, words := r.Byte(), rest(body, r)
		if kind != api.RecSafe && kind != api.RecEvent || len(words) > maxText {
			return list, at
		}
		list = append(list, api.Record{N: n + len(list), Kind: kind, Text: words})
		at = end
	}
}

// rest: what the reader has left of the text.
func rest(text string, r *pack.Reader) string { return text[len(text)-r.Left():] }

// whole: the body of the frame at a place, and the place behind its mark, if it has one.
func whole(text string, at int) (string, int, bool) {
	body, end, e := seal.Next(text, at)
	if e != api.OK || !strings.HasPrefix(text[end:], mark) {
		return "", 0, false
	}
	return body, end + len(mark), true
}
