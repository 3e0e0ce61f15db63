package journal_test

import (
	"strings"
	"testing"

	"ballast/api"
	"ballast/seal"
)

// begin is a book as an appending finds it, and what is appended.
type begin struct {
	name string
	b    *book
	kind int
	text string
	acts int // how many acts the appending is of
	step int // from how many bytes to how many it is cut
}

// full is a book of so many records at least, whose sheet has no room for a long one.
func full(t *testing.T, n int) *book {
	b := newBook(t)
	b.append(api.RecSafe, "\x00first\xff")
	for {
		c := b.copy(t)
		if c.append(api.RecEvent, strings.Repeat("\x01f", 500)); c.m.Acts() > 1 && len(b.list) >= n {
			return b
		}
		b.append(api.RecEvent, strings.Repeat("g", 700))
	}
}

// torn is the book behind an Append that was cut off, in one of its acts, behind so many bytes.
func torn(b *book, act, part int, text string) *book {
	b.t.Helper()
	b.m.Arm(api.Cut{At: act, Part: part})
	for b.append(api.RecSafe, text) == api.OK {
	}
	b.again()
	return b
}

// tatters is a book with a full page, the next one to be erased, and on each of the others a record or two, and one that was cut off. It is opened fast.
func tatters(t *testing.T) *book {
	b := newBook(t)
	for range 4 {
		b.append(api.RecEvent, strings.Repeat("o\xff", 500))
	}
	torn(b, 0, 3, "torn")
	for n := range api.Pages - 1 {
		for range 1 + n%2 {
			b.append(api.RecSafe+n%2, strings.Repeat("t", n))
		}
		torn(b, 0, 3, "torn")
	}
	return b
}

// begins are the books in which each byte of each act is cut, or some of them.
func begins(t *testing.T) []begin {
	small := newBook(t)
	small.append(api.RecSafe, "s")
	long := strings.Repeat("l\xff", 500)
	return []begin{
		{"the first of all", newBook(t), api.RecSafe, "a", 2, 1},
		{"behind another", small, api.RecSafe, "\xff\xff", 1, 1},
		{"a long one", small, api.RecEvent, long, 1, 1},
		{"of no byte", small, api.RecEvent, "", 1, 1},
		{"to a bare page", full(t, 8), api.RecSafe, long, 2, 1},
		{"to a page that is erased", full(t, 130), api.RecSafe, long, 3, 37},
		{"behind one that was cut off", tatters(t), api.RecSafe, "b", 3, 1},
		{"behind a head that was cut off", torn(tatters(t), 1, 12, "i"), api.RecSafe, "b", 3, 1},
		{"behind a first one that was cut off", torn(tatters(t), 2, 3, "i"), api.RecSafe, "b", 3, 1},
	}
}

// P8.2, P8.3: the power goes at each byte of each act of an appending; behind it the journal is found as it was, or with the record, and goes on.
func TestEachByte(t *testing.T) {
	for _, s := range begins(t) {
		t.Run(s.name, func(t *testing.T) {
			t.Parallel()
			b := s.b.copy(t)
			b.append(s.kind, s.text)
			if b.m.Acts() != s.acts {
				t.Errorf("%d acts, not %d", b.m.Acts(), s.acts)
			}
			for at := range s.acts {
				cutEachByte(t, s, at)
			}
		})
	}
}

// cutEachByte cuts one of the acts behind each of its bytes.
func cutEachByte(t *testing.T, s begin, at int) {
	all := cutOnce(t, s, api.Cut{At: at, Part: api.PageSize + 1})
	for part := -1; cutOnce(t, s, api.Cut{At: at, Part: part}) != all; part += s.step {
	}
}

// cutOnce cuts an appending, and then an opening or an appending behind it; it answers all bytes that the first cut left.
func cutOnce(t *testing.T, s begin, cut api.Cut) string {
	t.Helper()
	b := s.b.copy(t)
	b.m.Arm(cut)
	if e := b.append(s.kind, s.text); e != api.ErrDown {
		t.Fatalf("cut %v: Append answers %d", cut, e)
	}
	left := bytesOf(t, b.m.Again())
	b.again(api.Cut{At: cut.Part & 1, Part: cut.Part / 2})
	for b.append(api.RecSafe, "behind") == api.OK {
	}
	b.again()
	b.append(api.RecEvent, "the last")
	b.again()
	if n := len(b.list) - len(s.b.list); n < 1 || n > 4 {
		t.Fatalf("cut %v: %d records more", cut, n)
	}
	return left
}

// P8.2: of each record of a long row the power goes in the middle; none that was found goes again, none that was gone comes again.
func TestCutInEach(t *testing.T) {
	t.Parallel()
	for _, part := range []int{0, 1, 4, 30, 1006, 1007, 1008, 4096} {
		d, b := dice(part), newBook(t)
		for n := range 120 {
			b.m.Arm(api.Cut{At: n % 4, Part: part})
			for b.append(d.kind(), d.text()) == api.OK {
			}
			b.again()
			b.open()
			b.again()
		}
	}
}

// unfeed is what the sum's register was, ahead of four bytes 0.
func unfeed(register uint32) uint32 {
	for range 32 {
		if register&1 != 0 {
			register = (register^0x04c11db7)>>1 | 1<<31
		} else {
			register >>= 1
		}
	}
	return register
}

// forged gives four bytes with which the text, the bytes, so many bare ones, and a bare sum are a frame's.
func forged(text string, bare int) string {
	after := uint32(0xffffffff)
	for range bare {
		// One byte back: the register is shifted, and the byte is taken out of it again.
		for range 8 {
			if after&1 != 0 {
				after = (after^0x04c11db7)>>1 | 1<<31
			} else {
				after >>= 1
			}
		}
		after ^= 255 << 24
	}
	four := uint32(seal.Sum(text)) ^ unfeed(after)
	return string([]byte{byte(four >> 24), byte(four >> 16), byte(four >> 8), byte(four)})
}

// forgedText is a record's text, so that its frame, cut off behind 'cut' bytes of the text and followed by bare ones, reads as whole.
func forgedText(kind, size, cut int) string {
	ahead := strings.Repeat("p", cut-4)
	length := size + 1
	text := ahead + forged(string([]byte{byte(length >> 8), byte(length), byte(kind)})+ahead, size-cut)
	return text + strings.Repeat("q", size-cut)
}

// P8.2: a text may be chosen so that its frame, cut off, reads as another one; what was never asked for isn't found for that.
func TestForgedText(t *testing.T) {
	for _, size := range []int{8, 40, 300, 1000} {
		for cut := 4; cut < size; cut += 1 + size/20 {
			text := forgedText(api.RecSafe, size, cut)
			frame, _ := seal.Seal("\x01", text)
			bare := strings.Repeat("\xff", len(frame))
			if body, _, e := seal.Next(frame[:3+cut]+bare, 0); e != api.OK || body != "\x01"+text[:cut]+bare[:size-cut] {
				t.Fatalf("size %d, cut %d: the frame doesn't read as another one: %d", size, cut, e)
			}
			b := newBook(t)
			b.append(api.RecSafe, "state")
			b.m.Arm(api.Cut{Part: 3 + cut})
			b.append(api.RecSafe, text)
			for range 3 {
				b.again()
				b.append(api.RecEvent, text)
			}
			if b.list[1].Kind != api.RecEvent {
				t.Fatalf("size %d, cut %d: found is %q", size, cut, b.list[1].Text)
			}
		}
	}
}

// P8.2, P8.3: the same of a safety state that is burnt again when a page is begun.
func TestForgedState(t *testing.T) {
	const size, cut = 900, 600
	b := newBook(t)
	for n := range 3 {
		b.append(api.RecEvent, strings.Repeat("e", 1000-n))
	}
	ahead := strings.Repeat("p", cut-4)
	head := "\x00\x00\x00\x01\x00\x00\x00\x05\x01"
	length := size + len(head)
	state := ahead + forged(string([]byte{byte(length >> 8), byte(length)})+head+ahead, size-cut) + strings.Repeat("q", size-cut)
	b.append(api.RecSafe, state)
	b.m.Arm(api.Cut{Part: 2 + len(head) + cut})
	b.append(api.RecEvent, strings.Repeat("e", 1000))
	found := b.m.Again()
	bytes, _ := found.Read(1, 0, api.PageSize)
	if body, _, e := seal.Next(bytes, 0); e != api.OK || !strings.HasSuffix(body, "\xff") {
		t.Fatal("the head doesn't read as another one:", e)
	}
	b.again()
	b.append(api.RecEvent, "x")
	b.again()
}
