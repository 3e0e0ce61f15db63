package pack_test

import (
	"math"
	"slices"
	"strings"
	"testing"

	"ballast/api"
	"ballast/pack"
)

type write = func(w *pack.Writer)

func bytes(list ...int) write    { return func(w *pack.Writer) { w.Byte(list...) } }
func words(list ...int) write    { return func(w *pack.Writer) { w.Word(list...) } }
func longs(list ...int) write    { return func(w *pack.Writer) { w.Long(list...) } }
func texts(list ...string) write { return func(w *pack.Writer) { w.Text(list...) } }

// expect holds what the writer has and says against what it should.
func expect(t *testing.T, w *pack.Writer, size int, text string, errno api.Errno) {
	t.Helper()
	s, e := w.Done()
	if s != text || e != errno || w.Len() != size {
		t.Errorf("Done %x, %d; Len %d; want %x, %d; %d", s, e, w.Len(), text, errno, size)
	}
}

// P1.1, the chapter's first example.
func TestWriteExample(t *testing.T) {
	w := pack.New(9)
	w.Byte(1, 255)
	w.Word(258)
	w.Long(65536)
	expect(t, w, 8, "\x01\xff\x01\x02\x00\x01\x00\x00", api.OK)
	w.Byte(7, 8)
	expect(t, w, 9, "", api.ErrLong)
	w = pack.New(9)
	w.Byte(256)
	expect(t, w, 0, "", api.ErrField)
}

// P1.1: each thing in its order, the greatest byte first.
func TestWriteThings(t *testing.T) {
	big := strings.Repeat("x", api.MaxText)
	for name, c := range map[string]struct {
		do   write
		want string
	}{
		"bytes":      {bytes(0, 1, 254, 255), "\x00\x01\xfe\xff"},
		"words":      {words(0, 255, 256, 0x0102, 65535), "\x00\x00\x00\xff\x01\x00\x01\x02\xff\xff"},
		"longs":      {longs(0, 0x01020304, 4294967295), "\x00\x00\x00\x00\x01\x02\x03\x04\xff\xff\xff\xff"},
		"texts":      {texts("a", "", "b\x00\xff"), "\x01a\x00\x03b\x00\xff"},
		"long text":  {texts(big), "\xff" + big},
		"no bytes":   {bytes(), ""},
		"no words":   {words(), ""},
		"no longs":   {longs(), ""},
		"no texts":   {texts(), ""},
		"nil bytes":  {bytes([]int(nil)...), ""},
		"nil texts":  {texts([]string(nil)...), ""},
		"not utf-8":  {texts("\xc3\x28"), "\x02\xc3\x28"},
		"more bytes": {texts("é"), "\x02\xc3\xa9"},
	} {
		t.Run(name, func(t *testing.T) {
			w := pack.New(1000)
			c.do(w)
			expect(t, w, len(c.want), c.want, api.OK)
		})
	}
}

// P1.1: a number or a text out of its range is ErrField, whatever the limit leaves; what stood ahead of it in the list is written.
func TestWriteField(t *testing.T) {
	for name, c := range map[string]struct {
		do   write
		size int
	}{
		"byte above":       {bytes(5, 256, 6), 1},
		"byte below":       {bytes(-1), 0},
		"byte far above":   {bytes(math.MaxInt), 0},
		"byte far below":   {bytes(math.MinInt), 0},
		"byte round":       {bytes(1 << 32), 0},
		"word above":       {words(5, 65536, 6), 2},
		"word below":       {words(-1), 0},
		"word far below":   {words(math.MinInt), 0},
		"word round":       {words(1 << 40), 0},
		"long above":       {longs(5, 4294967296, 6), 4},
		"long below":       {longs(-1), 0},
		"long far above":   {longs(math.MaxInt), 0},
		"long far below":   {longs(math.MinInt), 0},
		"text above":       {texts("a", strings.Repeat("x", 256), "b"), 2},
		"text far above":   {texts(strings.Repeat("x", 65536)), 0},
		"text round to 44": {texts(strings.Repeat("x", 300)), 0},
	} {
		t.Run(name, func(t *testing.T) {
			w := pack.New(1000)
			c.do(w)
			expect(t, w, c.size, "", api.ErrField)
			w = pack.New(c.size)
			c.do(w)
			expect(t, w, c.size, "", api.ErrField)
		})
	}
}

// P1.1, P1.3: a thing for which the limit leaves too little is ErrLong, and none of it is written.
func TestWriteLong(t *testing.T) {
	for name, c := range map[string]struct {
		do    write
		limit int
		size  int
	}{
		"byte":                {bytes(1, 2, 3), 2, 2},
		"word":                {words(1, 2), 3, 2},
		"long":                {longs(1, 2), 7, 4},
		"text":                {texts("a", "bcd"), 5, 2},
		"length of a text":    {texts("a", ""), 2, 2},
		"byte, limit 0":       {bytes(0), 0, 0},
		"text, limit 0":       {texts(""), 0, 0},
		"byte, limit -1":      {bytes(0), -1, 0},
		"text, limit -1":      {texts(""), -1, 0},
		"long, far below":     {longs(0), math.MinInt, 0},
		"length, not a text":  {texts(strings.Repeat("x", 255)), 255, 0},
		"word at limit 1":     {words(0), 1, 0},
		"long at limit 3":     {longs(0), 3, 0},
		"long ahead of field": {bytes(1, 2, 256), 1, 1},
	} {
		t.Run(name, func(t *testing.T) {
			w := pack.New(c.limit)
			c.do(w)
			expect(t, w, c.size, "", api.ErrLong)
		})
	}
}

// P1.1: just at the limit all is well, and lists without elements never are an error.
func TestWriteAtLimit(t *testing.T) {
	w := pack.New(10)
	w.Byte(1)
	w.Word(2)
	w.Long(3)
	w.Text("ab")
	w.Byte()
	w.Text()
	expect(t, w, 10, "\x01\x00\x02\x00\x00\x00\x03\x02ab", api.OK)
	for _, limit := range []int{0, -1, math.MinInt} {
		w := pack.New(limit)
		w.Byte()
		w.Word()
		w.Long()
		w.Text()
		expect(t, w, 0, "", api.OK)
	}
	w = pack.New(math.MaxInt)
	w.Text("a")
	expect(t, w, 2, "\x01a", api.OK)
}

// P1.1: the first error stays, and nothing is written behind it, not even what would have room.
func TestWriteFirstErrorDecides(t *testing.T) {
	behind := []write{bytes(1), words(1), longs(1), texts("a"), bytes(256), texts(strings.Repeat("x", 256)), longs(1, 2, 3, 4)}
	w := pack.New(8)
	w.Word(1, 65536, 2)
	for _, do := range behind {
		do(w)
		expect(t, w, 2, "", api.ErrField)
	}
	w = pack.New(3)
	w.Word(1, 2, 3)
	for _, do := range behind {
		do(w)
		expect(t, w, 2, "", api.ErrLong)
	}
}

// P1.1: Done and Len leave the writer as it is.
func TestDoneLeavesWriter(t *testing.T) {
	w := pack.New(4)
	expect(t, w, 0, "", api.OK)
	w.Byte(1)
	expect(t, w, 1, "\x01", api.OK)
	expect(t, w, 1, "\x01", api.OK)
	first, _ := w.Done()
	w.Text("ab")
	expect(t, w, 4, "\x01\x02ab", api.OK)
	if first != "\x01" {
		t.Errorf("an answer of earlier is now %x", first)
	}
	w.Byte(0)
	expect(t, w, 4, "", api.ErrLong)
	expect(t, w, 4, "", api.ErrLong)
}

// P1.3: with whatever limit and things, a writer has no more bytes than the limit; and as many of the things, from the first on, as it leaves.
func TestWriteWithinLimit(t *testing.T) {
	things := []struct {
		do   write
		size int
	}{{bytes(9), 1}, {words(9), 2}, {longs(9), 4}, {texts("ab"), 3}, {texts(""), 1}}
	for limit := -2; limit <= 14; limit++ {
		for row := range 5 * 5 * 5 * 5 {
			w := pack.New(limit)
			size, full := 0, false
			for range 4 {
				c := things[row%5]
				row /= 5
				c.do(w)
				full = full || size+c.size > limit
				if !full {
					size += c.size
				}
				s, e := w.Done()
				if w.Len() != size || len(s) > max(limit, 0) || (e == api.ErrLong) != full || !full && (e != api.OK || len(s) != size) {
					t.Fatalf("limit %d: Len %d, %d bytes, error %d; want %d, full %t", limit, w.Len(), len(s), e, size, full)
				}
			}
		}
	}
}

// R5: lists that are handed in aren't changed, nor kept.
func TestWriteLeavesLists(t *testing.T) {
	numbers := []int{1, 2, 3, 4}
	names := []string{"a", "b", "c", "d"}
	w := pack.New(100)
	w.Byte(numbers[:2]...)
	w.Word(numbers[:2]...)
	w.Long(numbers[:2]...)
	w.Text(names[:2]...)
	if !slices.Equal(numbers, []int{1, 2, 3, 4}) || !slices.Equal(names, []string{"a", "b", "c", "d"}) {
		t.Errorf("changed: %v %v", numbers, names)
	}
	want, _ := w.Done()
	numbers[0], names[0] = 9, "z"
	expect(t, w, 18, want, api.OK)
}

// R4, R6: two writers have nothing to do with one another, and the same calls give the same answers.
func TestWritersApart(t *testing.T) {
	a, b := pack.New(20), pack.New(20)
	for i := range 10 {
		a.Byte(i)
		b.Word(i)
	}
	expect(t, a, 10, "\x00\x01\x02\x03\x04\x05\x06\x07\x08\x09", api.OK)
	expect(t, b, 20, "\x00\x00\x00\x01\x00\x02\x00\x03\x00\x04\x00\x05\x00\x06\x00\x07\x00\x08\x00\x09", api.OK)
	b.Byte(0)
	expect(t, b, 20, "", api.ErrLong)
	a.Byte(10)
	expect(t, a, 11, "\x00\x01\x02\x03\x04\x05\x06\x07\x08\x09\x0a", api.OK)
}
