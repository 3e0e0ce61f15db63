package tele_test

import (
	"fmt"
	"math"
	"reflect"
	"slices"
	"strings"
	"testing"

	"ballast/api"
	"ballast/tele"
)

// sort is a payload of lists: its first byte, how great the numbers of each list may be, how many each must have, and the calls.
type sort struct {
	name     string
	first    byte
	greatest []int
	sizes    func(h api.Shape) []int
	write    func(h api.Shape, lists [][]int) (string, api.Errno)
	read     func(h api.Shape, text string) ([][]int, api.Errno)
}

var statuses = sort{"status", 1, []int{1, 2, 1, 1},
	func(h api.Shape) []int {
		return []int{len(h.Sections), len(h.Points), len(h.Crossings), len(h.Signals)}
	},
	func(h api.Shape, lists [][]int) (string, api.Errno) {
		return tele.Status(h, api.Status{Occ: lists[0], Pos: lists[1], Shut: lists[2], Lamp: lists[3]})
	},
	func(h api.Shape, text string) ([][]int, api.Errno) {
		s, e := tele.ReadStatus(h, text)
		return [][]int{s.Occ, s.Pos, s.Shut, s.Lamp}, e
	},
}

var orders = sort{"orders", 2, []int{2, 2, 1},
	func(h api.Shape) []int { return []int{len(h.Points), len(h.Signals), len(h.Crossings)} },
	func(h api.Shape, lists [][]int) (string, api.Errno) {
		return tele.Orders(h, api.Orders{Pos: lists[0], Aspect: lists[1], Shut: lists[2]})
	},
	func(h api.Shape, text string) ([][]int, api.Errno) {
		o, e := tele.ReadOrders(h, text)
		return [][]int{o.Pos, o.Aspect, o.Shut}, e
	},
}

func sorts() []sort { return []sort{statuses, orders} }

// shape is one with so many sections, points, crossings and signals; which ones they are plays no part.
func shape(sections, points, crossings, signals int) api.Shape {
	list := func(size int) []int {
		list := make([]int, size)
		for i := range list {
			list[i] = odd[(7*i+size)%len(odd)]
		}
		return list
	}
	return api.Shape{Sections: list(sections), Points: list(points), Crossings: list(crossings), Signals: list(signals)}
}

// shapes are those of few things of each sort, and some of many.
func shapes() []api.Shape {
	var all []api.Shape
	for i := range 81 {
		all = append(all, shape(i%3, i/3%3, i/9%3, i/27))
	}
	return append(all, exampleShape, shape(16, 16, 4, 12), shape(5, 0, 3, 4), shape(0, 4, 4, 4), shape(300, 1, 0, 260), shape(0, 0, 2000, 0))
}

// payload is the bytes of the lists, one behind the other, behind the sort's first byte.
func (s sort) payload(lists [][]int) string {
	text := []byte{s.first}
	for _, n := range slices.Concat(lists...) {
		text = append(text, byte(n))
	}
	return string(text)
}

// some are right lists, whose numbers are thrown.
func (s sort) some(d *dice, h api.Shape) [][]int {
	lists := make([][]int, len(s.greatest))
	for i, size := range s.sizes(h) {
		for range size {
			lists[i] = append(lists[i], d.throw(s.greatest[i]+1))
		}
	}
	return lists
}

// filled are right lists, all of whose numbers are the least, or the greatest.
func (s sort) filled(h api.Shape, greatest bool) [][]int {
	lists := make([][]int, len(s.greatest))
	for i, size := range s.sizes(h) {
		lists[i] = make([]int, size)
		for k := range lists[i] {
			if greatest {
				lists[i][k] = s.greatest[i]
			}
		}
	}
	return lists
}

func sameLists(a, b [][]int) bool { return slices.EqualFunc(a, b, slices.Equal) }

func copied(lists [][]int) [][]int {
	list := slices.Clone(lists)
	for i := range list {
		list[i] = slices.Clone(list[i])
	}
	return list
}

// right holds that the lists have their payload, and come back from it.
func (s sort) right(t *testing.T, h api.Shape, lists [][]int) {
	t.Helper()
	want := s.payload(lists)
	if text, e := s.write(h, lists); text != want || e != api.OK {
		t.Fatalf("%s %v: %x, %d; want %x", s.name, lists, text, e, want)
	}
	if got, e := s.read(h, want); e != api.OK || !sameLists(got, lists) {
		t.Fatalf("%s %x: %v, %d; want %v", s.name, want, got, e, lists)
	}
}

// wrong holds that the lists have no payload.
func (s sort) wrong(t *testing.T, h api.Shape, lists [][]int) {
	t.Helper()
	if text, e := s.write(h, lists); text != "" || e != api.ErrField {
		t.Fatalf("%s %v: %x, %d; want %d", s.name, lists, text, e, api.ErrField)
	}
}

// strange holds that the text is no payload of the sort, and that nothing stands beside the error.
func (s sort) strange(t *testing.T, h api.Shape, text string) {
	t.Helper()
	lists, e := s.read(h, text)
	if e != api.ErrBytes || len(slices.Concat(lists...)) != 0 {
		t.Fatalf("%s %x: %v, %d; want %d", s.name, text, lists, e, api.ErrBytes)
	}
}

// P10.1, the chapter's first example: a status and orders of the shape above the examples.
func TestExample(t *testing.T) {
	status := api.Status{Occ: []int{1, 0}, Pos: []int{2}, Shut: []int{1}, Lamp: []int{1}}
	if text, e := tele.Status(exampleShape, status); text != "\x01\x01\x00\x02\x01\x01" || e != api.OK {
		t.Errorf("Status: %x, %d", text, e)
	}
	if got, e := tele.ReadStatus(exampleShape, "\x01\x01\x00\x02\x01\x01"); !reflect.DeepEqual(got, status) || e != api.OK {
		t.Errorf("ReadStatus: %v, %d", got, e)
	}
	order := api.Orders{Pos: []int{0}, Aspect: []int{2}, Shut: []int{0}}
	if text, e := tele.Orders(exampleShape, order); text != "\x02\x00\x02\x00" || e != api.OK {
		t.Errorf("Orders: %x, %d", text, e)
	}
	if got, e := tele.ReadOrders(exampleShape, "\x02\x00\x02\x00"); !reflect.DeepEqual(got, order) || e != api.OK {
		t.Errorf("ReadOrders: %v, %d", got, e)
	}
}

// P10.1: each list stands at its own place.
func TestPlaces(t *testing.T) {
	h := shape(3, 1, 2, 4)
	status := api.Status{Occ: []int{0, 0, 1}, Pos: []int{2}, Shut: []int{0, 1}, Lamp: []int{1, 1, 0, 1}}
	if text, e := tele.Status(h, status); text != "\x01\x00\x00\x01\x02\x00\x01\x01\x01\x00\x01" || e != api.OK {
		t.Errorf("Status: %x, %d", text, e)
	}
	order := api.Orders{Pos: []int{1}, Aspect: []int{2, 0, 1, 2}, Shut: []int{1, 0}}
	if text, e := tele.Orders(h, order); text != "\x02\x01\x02\x00\x01\x02\x01\x00" || e != api.OK {
		t.Errorf("Orders: %x, %d", text, e)
	}
}

// P10.1, P10.2: what is right has its payload and comes back from it: all least, all greatest and thrown numbers, on shapes with none, few and many of everything.
func TestRight(t *testing.T) {
	throws := dice(1)
	for _, s := range sorts() {
		for _, h := range shapes() {
			s.right(t, h, s.filled(h, false))
			s.right(t, h, s.filled(h, true))
			for range 20 {
				s.right(t, h, s.some(&throws, h))
			}
		}
	}
}

// P10.1, R3: of a shape without elements nothing but the first byte is told, be its lists nil or empty, and those of what is told.
func TestNothing(t *testing.T) {
	for _, s := range sorts() {
		for _, h := range []api.Shape{{}, {Sections: []int{}, Points: []int{}, Crossings: []int{}, Signals: []int{}}} {
			for _, lists := range [][][]int{make([][]int, len(s.greatest)), s.filled(h, false)} {
				s.right(t, h, lists)
			}
			s.strange(t, h, "")
			s.strange(t, h, string([]byte{s.first, 0}))
			s.strange(t, h, string([]byte{3 - s.first}))
		}
	}
}

// P10.1: a list that is too short or too long by one, two or all is ErrField, also where another one has what this one lacks.
func TestWrongSizes(t *testing.T) {
	throws := dice(2)
	for _, s := range sorts() {
		for _, h := range shapes() {
			for i := range s.greatest {
				lists := s.some(&throws, h)
				list := lists[i]
				for size := range len(list) {
					if size < 3 || size > len(list)-3 {
						lists[i] = list[:size]
						s.wrong(t, h, lists)
					}
				}
				for _, more := range [][]int{{0}, {1}, {0, 0}, {0, 0, 0, 0, 0}} {
					lists[i] = slices.Concat(list, more)
					s.wrong(t, h, lists)
				}
				for k := range s.greatest {
					if other := lists[k]; k != i && len(other) > 0 {
						lists[i], lists[k] = slices.Concat(list, []int{0}), other[1:]
						s.wrong(t, h, lists)
						lists[k] = other
					}
				}
			}
		}
	}
}

// P10.1: each number just below and just above its range, and far from it, is ErrField, wherever it stands; also beside a list that is too long.
func TestWrongNumbers(t *testing.T) {
	throws := dice(3)
	for _, s := range sorts() {
		for _, h := range shapes()[:len(shapes())-2] {
			lists := s.some(&throws, h)
			for i, greatest := range s.greatest {
				for k, n := range lists[i] {
					for _, other := range append([]int{greatest + 1, greatest + 2}, odd...) {
						lists[i][k] = other
						s.wrong(t, h, lists)
					}
					longer := copied(lists)
					longer[i] = append(longer[i], 0)
					s.wrong(t, h, longer)
					lists[i][k] = n
				}
			}
		}
	}
}

// holds tells whether a text is a payload of the sort, byte by byte, and of which lists.
func (s sort) holds(h api.Shape, text string) ([][]int, bool) {
	if text == "" || text[0] != s.first {
		return nil, false
	}
	rest, lists := text[1:], make([][]int, len(s.greatest))
	for i, size := range s.sizes(h) {
		for range size {
			if rest == "" || int(rest[0]) > s.greatest[i] {
				return nil, false
			}
			lists[i], rest = append(lists[i], int(rest[0])), rest[1:]
		}
	}
	return lists, rest == ""
}

// reads holds what the sort's call reads of the text, and that what is read would be written so; it tells whether it was one.
func (s sort) reads(t *testing.T, h api.Shape, text string) bool {
	t.Helper()
	lists, ok := s.holds(h, text)
	if ok {
		s.right(t, h, lists)
	} else {
		s.strange(t, h, text)
	}
	return ok
}

// P10.1, P10.2: all texts of at most five bytes out of 0 to 3, on all shapes of few things, by both sorts.
func TestAllShortTexts(t *testing.T) {
	t.Parallel()
	taken := 0
	for size := range 6 {
		for number := range 1 << (2 * size) {
			text := make([]byte, size)
			for i := range text {
				text[i] = byte(number >> (2 * i) & 3)
			}
			for _, h := range shapes()[:81] {
				status, order := statuses.reads(t, h, string(text)), orders.reads(t, h, string(text))
				if status && order {
					t.Fatalf("%x is a status and orders", text)
				}
				if status || order {
					taken++
				}
			}
		}
	}
	if taken < 1000 {
		t.Error("too few were taken: ", taken)
	}
}

// P10.1, P10.2: each byte of a payload set to each other one: it is read just if it is in its range, and the first one only by its own sort.
func TestEachByte(t *testing.T) {
	throws := dice(4)
	for _, s := range sorts() {
		for _, h := range []api.Shape{{}, exampleShape, shape(3, 2, 4, 5), shape(16, 16, 4, 12)} {
			for range 3 {
				text := []byte(s.payload(s.some(&throws, h)))
				for i, was := range text {
					for b := range 256 {
						text[i] = byte(b)
						statuses.reads(t, h, string(text))
						orders.reads(t, h, string(text))
					}
					text[i] = was
				}
			}
		}
	}
}

// P10.1: payloads cut off at each length, and with bytes behind them, are none; nor is one whose bytes begin later.
func TestEachLength(t *testing.T) {
	throws := dice(5)
	for _, s := range sorts() {
		for _, h := range shapes() {
			text := s.payload(s.some(&throws, h))
			for size := range text {
				s.strange(t, h, text[:size])
				if size > 0 {
					s.strange(t, h, text[size:])
				}
			}
			for _, more := range []string{"\x00", "\x01", "\x00\x00", "\xff", text, strings.Repeat("\x00", 300)} {
				s.strange(t, h, text+more)
			}
			s.strange(t, h, "\x00"+text)
			s.strange(t, h, string([]byte{s.first})+text)
		}
	}
}

// P10.2: a payload of one kind is none of another, on whatever shapes, of the same length or not.
func TestKindsApart(t *testing.T) {
	throws := dice(6)
	block, _ := tele.Block(api.Block{Ask: 1, Done: 1, Grant: 1})
	for _, h := range append(shapes(), shape(12, 0, 0, 0), shape(0, 12, 0, 0), shape(4, 4, 4, 0), shape(0, 0, 12, 0), shape(0, 0, 0, 12), shape(3, 3, 3, 3)) {
		for range 5 {
			status, order := statuses.payload(statuses.some(&throws, h)), orders.payload(orders.some(&throws, h))
			orders.strange(t, h, status)
			statuses.strange(t, h, order)
			noBlock(t, status)
			noBlock(t, order)
		}
		statuses.strange(t, h, block)
		orders.strange(t, h, block)
	}
}

// P10.1, the chapter's second example.
func TestBlockExample(t *testing.T) {
	text, e := tele.Block(api.Block{Ask: 1, Done: 0, Grant: 7})
	if want := "\x03\x00\x00\x00\x01\x00\x00\x00\x00\x00\x00\x00\x07"; text != want || e != api.OK {
		t.Errorf("%x, %d; want %x", text, e, want)
	}
	if b, e := tele.ReadBlock(text); b != (api.Block{Ask: 1, Grant: 7}) || e != api.OK {
		t.Errorf("%v, %d", b, e)
	}
}

// longs are numbers of four bytes.
var longs = []int{0, 1, 7, 255, 256, 65535, 65536, 0x01020304, 1<<24 - 1, 1 << 24, 1<<31 - 1, 1 << 31, api.MaxTime - 1, api.MaxTime}

// P10.1, P10.2: blocks of all least, greatest and some middle numbers have their bytes, and come back from them.
func TestBlocks(t *testing.T) {
	for _, ask := range longs {
		for _, done := range longs {
			for _, grant := range longs {
				b, want := api.Block{Ask: ask, Done: done, Grant: grant}, "\x03"
				for _, n := range []int{ask, done, grant} {
					want += string([]byte{byte(n >> 24), byte(n >> 16), byte(n >> 8), byte(n)})
				}
				if text, e := tele.Block(b); text != want || e != api.OK {
					t.Fatalf("%v: %x, %d; want %x", b, text, e, want)
				}
				if got, e := tele.ReadBlock(want); got != b || e != api.OK {
					t.Fatalf("%x: %v, %d; want %v", want, got, e, b)
				}
			}
		}
	}
}

// P10.1: a block with a number just below or just above its range, or far from it, is ErrField.
func TestWrongBlocks(t *testing.T) {
	for _, n := range []int{-1, -2, math.MinInt, -api.MaxTime, api.MaxTime + 1, api.MaxTime + 2, 1 << 33, 1 << 40, math.MaxInt} {
		for _, right := range []int{0, 7, api.MaxTime} {
			for _, b := range []api.Block{{Ask: n, Done: right, Grant: right}, {Ask: right, Done: n, Grant: right}, {Ask: right, Done: right, Grant: n}, {Ask: n, Done: n, Grant: n}} {
				if text, e := tele.Block(b); text != "" || e != api.ErrField {
					t.Errorf("%v: %x, %d", b, text, e)
				}
			}
		}
	}
}

// noBlock holds that the text is no payload of a block, and that nothing stands beside the error.
func noBlock(t *testing.T, text string) {
	t.Helper()
	if b, e := tele.ReadBlock(text); b != (api.Block{}) || e != api.ErrBytes {
		t.Fatalf("%x: %v, %d", text, b, e)
	}
}

// P10.1, P10.2: texts of each length around the right one, with each first byte: a block just if both are right, and then with whatever bytes.
func TestBlockTexts(t *testing.T) {
	throws := dice(7)
	for size := range 30 {
		for first := range 256 {
			text := make([]byte, size)
			for i := range text {
				text[i] = byte(throws.throw(256))
			}
			if size > 0 {
				text[0] = byte(first)
			}
			if size != 13 || first != 3 {
				noBlock(t, string(text))
				continue
			}
			b, e := tele.ReadBlock(string(text))
			if again, f := tele.Block(b); e != api.OK || f != api.OK || again != string(text) {
				t.Fatalf("%x: %v, %d; written %x, %d", text, b, e, again, f)
			}
		}
	}
}

// R4: the same calls give the same answers.
func TestSameAgain(t *testing.T) {
	run := func() string {
		throws, answers := dice(8), ""
		for range 200 {
			c := thrown(&throws)
			h := tele.Shape(c, throws.throw(4))
			for _, s := range sorts() {
				text, e := s.write(h, s.some(&throws, h))
				lists, f := s.read(h, text)
				answers += fmt.Sprintln(h, text, e, lists, f)
			}
		}
		return answers
	}
	if first, second := run(), run(); first != second {
		t.Errorf("first:\n%s\nthen:\n%s", first, second)
	}
}

// R5: writing changes neither the shape nor what is written; what is read is new memory each time, and no two of its lists share any.
func TestPayloadMemory(t *testing.T) {
	throws, h := dice(9), shape(5, 4, 3, 6)
	for _, s := range sorts() {
		lists := s.some(&throws, h)
		before := copied(lists)
		text, _ := s.write(h, lists)
		a, _ := s.read(h, text)
		b, _ := s.read(h, text)
		if !sameLists(lists, before) || !sameLists(a, before) || !sameLists(b, before) || !reflect.DeepEqual(h, shape(5, 4, 3, 6)) {
			t.Errorf("%s %v: %v, %v; %v", s.name, before, lists, a, h)
		}
		apart(t, s.name, slices.Concat(a, b, lists, [][]int{h.Sections, h.Points, h.Crossings, h.Signals})...)
		h = shape(5, 4, 3, 6)
	}
}
