// Package pack is layer 1: numbers of fixed widths and short texts as bytes, within a bound, and back.
package pack

import (
	"strings"

	"ballast/api"
)

// How many bytes a number takes.
const (
	byteWidth = 1
	wordWidth = 2
	longWidth = 4
)

// store is what a writer gathers its bytes in. It keeps the bound itself, so that no writer can pass it.
type store struct {
	limit int
	bytes []byte
}

// Len: how many bytes were written.
func (s *store) Len() int { return len(s.bytes) }

// add takes a thing whole or, if the limit leaves too little, not at all.
func (s *store) add(thing []byte) bool {
	if len(thing) > s.limit-len(s.bytes) {
		return false
	}
	s.bytes = append(s.bytes, thing...)
	return true
}

// Writer: bytes within a bound.
type Writer struct {
	store
	err api.Errno
}

// New: a writer of so many bytes at most.
func New(limit int) *Writer {
	return &Writer{store: store{limit: max(limit, 0)}}
}

// Byte: numbers of one byte.
func (w *Writer) Byte(list ...int) { w.numbers(byteWidth, list) }

// Word: numbers of two bytes.
func (w *Writer) Word(list ...int) { w.numbers(wordWidth, list) }

// Long: numbers of four bytes.
func (w *Writer) Long(list ...int) { w.numbers(longWidth, list) }

// Text: short texts.
func (w *Writer) Text(list ...string) {
	for _, text := range list {
		if len(text) > api.MaxText {
			w.fail(api.ErrField)
			return
		}
		w.put(append([]byte{byte(len(text))}, text...))
	}
}

// Done: what was written, or the error.
func (w *Writer) Done() (string, api.Errno) {
	if w.err != api.OK {
		return "", w.err
	}
	return string(w.bytes), api.OK
}

func (w *Writer) numbers(width int, list []int) {
	for _, n := range list {
		if !fits(width, n) {
			w.fail(api.ErrField)
			return
		}
		w.put(digits(width, n))
	}
}

func (w *Writer) put(thing []byte) {
	if w.err == api.OK && !w.add(thing) {
		w.fail(api.ErrLong)
	}
}

// fail keeps the first error only: what comes behind it is passed over.
func (w *Writer) fail(e api.Errno) {
	if w.err == api.OK {
		w.err = e
	}
}

func fits(width, n int) bool { return n >= 0 && n < 1<<(8*width) }

func digits(width, n int) []byte {
	thing := make([]byte, width)
	for i := range thing {
		thing[i] = byte(n >> (8 * (width - 1 - i)))
	}
	return thing
}

// Reader: bytes that are read.
type Reader struct {
	rest  string
	short bool
}

// Read: a reader of the text.
func Read(text string) *Reader { return &Reader{rest: text} }

// Byte: the next number of one byte.
func (r *Reader) Byte() int { return r.number(byteWidth) }

// Word: the next number of two bytes.
func (r *Reader) Word() int { return r.number(wordWidth) }

// Long: the next number of four bytes.
func (r *Reader) Long() int { return r.number(longWidth) }

// Text: the next text.
func (r *Reader) Text() string {
	// The length is only looked at ahead: of a text that is cut off it is left, too.
	size := 1
	if r.rest != "" {
		size += int(r.rest[0])
	}
	thing := r.take(size)
	if thing == "" {
		return ""
	}
	return strings.Clone(thing[1:])
}

// Left: how many bytes are left.
func (r *Reader) Left() int { return len(r.rest) }

// End: is all read, and well?
func (r *Reader) End() api.Errno {
	switch {
	case r.short:
		return api.ErrShort
	case r.rest != "":
		return api.ErrBytes
	}
	return api.OK
}

func (r *Reader) number(width int) int {
	n := 0
	for _, b := range []byte(r.take(width)) {
		n = n<<8 | int(b)
	}
	return n
}

// take answers no bytes from the first thing on that can't be had whole.
func (r *Reader) take(size int) string {
	if r.short || size > len(r.rest) {
		r.short = true
		return ""
	}
	thing := r.rest[:size]
	r.rest = r.rest[size:]
	return thing
}
