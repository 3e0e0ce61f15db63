package pack_test

import (
	"strings"
	"testing"

	"ballast/api"
	"ballast/pack"
)

// same tells where an answer is another one than the one that is wanted.
func same[T comparable](t *testing.T, what string, got, want T) {
	t.Helper()
	if got != want {
		t.Errorf("%s: %v, want %v", what, got, want)
	}
}

// P1.1, the chapter's second example.
func TestReadExample(t *testing.T) {
	r := pack.Read("\x02\x61")
	same(t, "Text", r.Text(), "")
	same(t, "End", r.End(), api.ErrShort)
	same(t, "Left", r.Left(), 2)
	r = pack.Read("\x00")
	same(t, "Text", r.Text(), "")
	same(t, "End", r.End(), api.OK)
}

// P1.1: what stands next is read, the greatest byte first, and the reader goes on behind it.
func TestReadThings(t *testing.T) {
	big := strings.Repeat("y", api.MaxText)
	r := pack.Read("\xff\xff\xfe\xff\xfe\xfd\xfc\x02a\x00\x00\xff" + big + "\x07")
	same(t, "Left", r.Left(), 268)
	same(t, "Byte", r.Byte(), 255)
	same(t, "Left", r.Left(), 267)
	same(t, "Word", r.Word(), 65534)
	same(t, "Left", r.Left(), 265)
	same(t, "Long", r.Long(), 0xfffefdfc)
	same(t, "Left", r.Left(), 261)
	same(t, "Text", r.Text(), "a\x00")
	same(t, "Left", r.Left(), 258)
	same(t, "Text", r.Text(), "")
	same(t, "Left", r.Left(), 257)
	same(t, "Text", r.Text(), big)
	same(t, "Left", r.Left(), 1)
	same(t, "End", r.End(), api.ErrBytes)
	same(t, "Byte", r.Byte(), 7)
	same(t, "End", r.End(), api.OK)
	same(t, "Left", r.Left(), 0)
}

// P1.1: with too few bytes nothing is read, what is there is left, and so it stays.
func TestReadShort(t *testing.T) {
	reads := map[string]func(r *pack.Reader) bool{
		"Byte": func(r *pack.Reader) bool { return r.Byte() == 0 },
		"Word": func(r *pack.Reader) bool { return r.Word() == 0 },
		"Long": func(r *pack.Reader) bool { return r.Long() == 0 },
		"Text": func(r *pack.Reader) bool { return r.Text() == "" },
	}
	for _, c := range []struct{ read, rest string }{
		{"Byte", ""}, {"Word", ""}, {"Long", ""}, {"Text", ""},
		{"Word", "\x01"}, {"Long", "\x01"}, {"Long", "\x01\x02\x03"},
		{"Text", "\x01"}, {"Text", "\x03ab"}, {"Text", "\xff" + strings.Repeat("a", 254)},
	} {
		r := pack.Read("\x05" + c.rest)
		same(t, "Byte", r.Byte(), 5)
		if !reads[c.read](r) {
			t.Errorf("%s of %x: not zero", c.read, c.rest)
		}
		same(t, "End", r.End(), api.ErrShort)
		same(t, "Left", r.Left(), len(c.rest))
		for name, read := range reads {
			if !read(r) {
				t.Errorf("%s behind %s of %x: not zero", name, c.read, c.rest)
			}
			same(t, "End", r.End(), api.ErrShort)
			same(t, "Left", r.Left(), len(c.rest))
		}
	}
}

// P1.1: a reader that has read nothing yet; End and Left leave it as it is.
func TestReadNothing(t *testing.T) {
	same(t, "End", pack.Read("").End(), api.OK)
	same(t, "Left", pack.Read("").Left(), 0)
	r := pack.Read("ab")
	same(t, "End", r.End(), api.ErrBytes)
	same(t, "End", r.End(), api.ErrBytes)
	same(t, "Left", r.Left(), 2)
	same(t, "Word", r.Word(), 'a'*256+'b')
	same(t, "End", r.End(), api.OK)
}

// R6: two readers of one text have nothing to do with one another.
func TestReadersApart(t *testing.T) {
	text := "\x01\x02"
	a, b := pack.Read(text), pack.Read(text)
	same(t, "Long", a.Long(), 0)
	same(t, "Byte", b.Byte(), 1)
	same(t, "a's End", a.End(), api.ErrShort)
	same(t, "b's End", b.End(), api.ErrBytes)
	same(t, "Byte", b.Byte(), 2)
	same(t, "b's End", b.End(), api.OK)
}

// P1.2, R4: what is wanted there is held for rows of things that a rule brings forth, the same ones each time.
type rule uint64

func (u *rule) next(below int) int {
	*u = *u*6364136223846793005 + 1442695040888963407
	return int(uint64(*u)>>33) % below
}

type thing struct {
	kind, n int
	text    string
}

func (u *rule) thing() thing {
	c := thing{kind: u.next(4)}
	edge := u.next(3) // as small, as great as it may be, or something between
	top := []int{1 << 8, 1 << 16, 1 << 32, api.MaxText + 1}[c.kind]
	n := []int{0, top - 1, (u.next(1<<30)<<2 + u.next(4)) % top}[edge]
	if c.kind < 3 {
		c.n = n
		return c
	}
	text := make([]byte, n)
	for i := range text {
		text[i] = byte(u.next(256))
	}
	c.text = string(text)
	return c
}

func (c thing) write(w *pack.Writer) {
	switch c.kind {
	case 0:
		w.Byte(c.n)
	case 1:
		w.Word(c.n)
	case 2:
		w.Long(c.n)
	default:
		w.Text(c.text)
	}
}

func readThing(r *pack.Reader, kind int) thing {
	switch kind {
	case 0:
		return thing{kind, r.Byte(), ""}
	case 1:
		return thing{kind, r.Word(), ""}
	case 2:
		return thing{kind, r.Long(), ""}
	}
	return thing{kind, 0, r.Text()}
}

// P1.2: what was written without an error is read again in the same order, and End is OK.
func TestWrittenIsRead(t *testing.T) {
	u := rule(1)
	for range 2000 {
		w := pack.New(10000)
		row := make([]thing, u.next(12))
		for i := range row {
			row[i] = u.thing()
			row[i].write(w)
		}
		text, e := w.Done()
		same(t, "Done", e, api.OK)
		r := pack.Read(text)
		for _, c := range row {
			same(t, "thing", readThing(r, c.kind), c)
		}
		same(t, "End", r.End(), api.OK)
		same(t, "Left", r.Left(), 0)
	}
}

// P1.2: what is read, to the end, is what would be written so: of any bytes.
func TestReadIsWritten(t *testing.T) {
	u := rule(2)
	whole := 0
	for range 20000 {
		text := make([]byte, u.next(10))
		for i := range text {
			text[i] = byte([]int{0, 1, 2, 3, 255}[u.next(5)])
		}
		r, w := pack.Read(string(text)), pack.New(len(text))
		for range 1 + u.next(5) {
			readThing(r, u.next(4)).write(w)
		}
		if r.End() != api.OK {
			continue
		}
		whole++
		s, e := w.Done()
		same(t, "Done's error", e, api.OK)
		same(t, "Done", s, string(text))
	}
	if whole < 1000 {
		t.Errorf("only %d texts were read to the end", whole)
	}
}
