package link_test

import (
	"fmt"
	"math"
	"strings"
	"testing"
	"unsafe"

	"ballast/api"
	"ballast/link"
	"ballast/seal"
)

// telegram is what a telegram says.
type telegram struct {
	peer, number, stamp int
	payload             string
}

func (g telegram) make() (string, api.Errno) { return link.Make(g.peer, g.number, g.stamp, g.payload) }

// body is the telegram's bytes ahead of the framing, written by hand.
func (g telegram) body() string {
	return string([]byte{byte(g.peer), byte(g.number >> 8), byte(g.number),
		byte(g.stamp >> 24), byte(g.stamp >> 16), byte(g.stamp >> 8), byte(g.stamp)}) + g.payload
}

func read(text string) (telegram, api.Errno) {
	peer, number, stamp, payload, e := link.Read(text)
	return telegram{peer, number, stamp, payload}, e
}

// framed is the frame of a body, whether or not the body is a telegram's.
func framed(t *testing.T, body string) string {
	t.Helper()
	text, e := seal.Seal(body)
	if e != api.OK {
		t.Fatal("no frame", len(body), e)
	}
	return text
}

var (
	full = strings.Repeat("\xff\x00z", 333) + "y"
	long = full + "x"
)

// telegrams are those of all least, greatest and some middle fields, with payloads from no byte to 1000.
func telegrams() []telegram {
	list := []telegram{}
	for _, peer := range []int{0, 1, 3, 127, 128, 254, 255} {
		for _, number := range []int{0, 1, 255, 256, 258, 32767, 32768, 65534, 65535} {
			for _, stamp := range []int{0, 1, 255, 256, 65535, 65536, 0x01020304, 1<<31 - 1, 1 << 31, api.MaxTime - 1, api.MaxTime} {
				for _, payload := range []string{"", "\x00", "x", "\xff\xfe", "some words", full[:993], full[:999], full} {
					list = append(list, telegram{peer, number, stamp, payload})
				}
			}
		}
	}
	return list
}

// P9.1, the chapter's first example: the bytes of the telegram.
func TestMakeExample(t *testing.T) {
	want := framed(t, "\x03\x00\x01\x00\x00\x00\x07\x78")
	if text, e := link.Make(3, 1, 7, "x"); text != want || e != api.OK {
		t.Errorf("Make: %x, %d; want %x", text, e, want)
	}
	if got, e := read(want); got != (telegram{3, 1, 7, "x"}) || e != api.OK {
		t.Errorf("Read: %v, %d", got, e)
	}
}

// P9.1, P9.2: a telegram is its fields' bytes in a frame, and what was made is read again.
func TestMakeAndRead(t *testing.T) {
	for _, g := range telegrams() {
		text, e := g.make()
		if e != api.OK || text != framed(t, g.body()) {
			t.Fatalf("Make of %d %d %d and %d bytes: %x, %d", g.peer, g.number, g.stamp, len(g.payload), text, e)
		}
		if got, e := read(text); e != api.OK || got != g {
			t.Fatalf("Read of %d %d %d and %d bytes: %v, %d", g.peer, g.number, g.stamp, len(g.payload), got, e)
		}
	}
}

// P9.1: fields just beyond their ranges, far beyond, and below 0 are ErrField, whatever the others are; so is a field beside a payload that is too long.
func TestMakeField(t *testing.T) {
	for _, payload := range []string{"", "x", full, long} {
		for _, g := range []telegram{
			{-1, 1, 1, payload}, {256, 1, 1, payload}, {257, 1, 1, payload}, {math.MinInt, 1, 1, payload}, {math.MaxInt, 1, 1, payload}, {1 << 32, 1, 1, payload},
			{1, -1, 1, payload}, {1, 65536, 1, payload}, {1, 65537, 1, payload}, {1, math.MinInt, 1, payload}, {1, math.MaxInt, 1, payload}, {1, 1 << 32, 1, payload},
			{1, 1, -1, payload}, {1, 1, api.MaxTime + 1, payload}, {1, 1, api.MaxTime + 2, payload}, {1, 1, math.MinInt, payload}, {1, 1, math.MaxInt, payload},
			{-1, -1, -1, payload}, {256, 65536, api.MaxTime + 1, payload}, {0, 65535, -1, payload}, {255, -1, 0, payload}, {-1, 0, api.MaxTime, payload},
		} {
			if text, e := g.make(); text != "" || e != api.ErrField {
				t.Errorf("Make of %d %d %d and %d bytes: %d bytes, %d", g.peer, g.number, g.stamp, len(payload), len(text), e)
			}
		}
	}
}

// P9.1: a payload of more than 1000 bytes is ErrLong.
func TestMakeLong(t *testing.T) {
	for _, size := range []int{1001, 1002, 1017, 1018, 1024, 1025, 65536} {
		for _, stamp := range []int{0, api.MaxTime} {
			if text, e := link.Make(255, 65535, stamp, strings.Repeat("x", size)); text != "" || e != api.ErrLong {
				t.Errorf("%d bytes: %d bytes, %d", size, len(text), e)
			}
		}
	}
}

// refused holds that Read answers the error, and nothing beside it.
func refused(t *testing.T, name, text string, want api.Errno) {
	t.Helper()
	if got, e := read(text); got != (telegram{}) || e != want {
		t.Errorf("%s: %v, %d; want %d", name, got, e, want)
	}
}

// P9.1: what is no frame is refused as seal.Open refuses it, ahead of all that its body would say.
func TestReadNoFrame(t *testing.T) {
	good, _ := link.Make(3, 1, 7, "x")
	spoilt := good[:len(good)-1] + string([]byte{good[len(good)-1] ^ 1})
	tight, wide := framed(t, "six by"), framed(t, strings.Repeat("x", api.MaxBody))
	for name, c := range map[string]struct {
		text string
		want api.Errno
	}{
		"nothing":                     {"", api.ErrShort},
		"one byte":                    {"x", api.ErrShort},
		"five noughts":                {"\x00\x00\x00\x00\x00", api.ErrShort},
		"no last byte":                {good[:len(good)-1], api.ErrShort},
		"no first byte":               {good[1:], api.ErrLong},
		"the body alone":              {good[2 : len(good)-4], api.ErrShort},
		"a length of 1025":            {"\x04\x01" + strings.Repeat("x", 1029), api.ErrLong},
		"a length of 65535":           {"\xff\xff\x00\x00\x00\x00", api.ErrLong},
		"a byte behind":               {good + "\x00", api.ErrBytes},
		"two telegrams":               {good + good, api.ErrBytes},
		"spoilt":                      {spoilt, api.ErrSum},
		"six noughts":                 {"\x00\x00\x00\x00\x00\x00", api.ErrSum},
		"few bytes, and spoilt":       {tight[:2] + "S" + tight[3:], api.ErrSum},
		"many bytes, and spoilt":      {wide[:2] + "X" + wide[3:], api.ErrSum},
		"few bytes, and one behind":   {tight + "x", api.ErrBytes},
		"many bytes, and one behind":  {wide + "x", api.ErrBytes},
		"many bytes, and one lacking": {wide[:len(wide)-1], api.ErrShort},
	} {
		refused(t, name, c.text, c.want)
		if _, e := seal.Open(c.text); e != c.want {
			t.Errorf("%s: seal.Open: %d; want %d", name, e, c.want)
		}
	}
}

// P9.1, P9.2: bodies of every length: fewer than seven bytes are ErrBytes, a payload of more than 1000 is ErrLong, all others are telegrams, and Make would make them.
func TestReadEveryLength(t *testing.T) {
	throws := dice(9)
	for size := range api.MaxBody + 1 {
		body := throws.bytes(size)
		text := framed(t, body)
		switch {
		case size < 7:
			refused(t, fmt.Sprint(size, " bytes"), text, api.ErrBytes)
			continue
		case size > 1007:
			refused(t, fmt.Sprint(size, " bytes"), text, api.ErrLong)
			continue
		}
		got, e := read(text)
		if e != api.OK || got.body() != body {
			t.Errorf("%d bytes: %v, %d", size, got, e)
		}
		if again, e := got.make(); again != text || e != api.OK {
			t.Errorf("%d bytes made again: %x, %d", size, again, e)
		}
	}
}

// P9.2: of all texts in which one byte of a telegram is another one, Read takes none.
func TestTurnedBytes(t *testing.T) {
	for _, g := range []telegram{{3, 1, 7, "x"}, {0, 0, 0, ""}, {255, 65535, api.MaxTime, "\xff\xff\xff\xff\xff"}} {
		text, _ := g.make()
		for i := range text {
			for turn := range 255 {
				other := []byte(text)
				other[i] ^= byte(turn + 1)
				_, want := seal.Open(string(other))
				if want == api.OK {
					t.Fatalf("%x is a frame", other)
				}
				refused(t, fmt.Sprintf("byte %d of %x", i, text), string(other), want)
			}
		}
	}
}

// P9.2: what Read takes, Make would make: held on texts near to telegrams whose bytes were turned, cut off, doubled, and sealed again.
func TestMakeOfRead(t *testing.T) {
	throws, taken := dice(17), 0
	for range 20000 {
		body := []byte(throws.bytes(throws.throw(20)))
		text := framed(t, string(body))
		switch throws.throw(4) {
		case 0:
			text = text[:throws.throw(len(text)+1)]
		case 1:
			text += text[:throws.throw(3)]
		}
		got, e := read(text)
		if e != api.OK {
			if got != (telegram{}) {
				t.Fatalf("%x: %v beside %d", text, got, e)
			}
			continue
		}
		taken++
		if again, e := got.make(); again != text || e != api.OK {
			t.Fatalf("%x is read as %v, made again as %x, %d", text, got, again, e)
		}
	}
	if taken < 5000 {
		t.Error("too few were taken: ", taken)
	}
}

// R5: what Read and Take answer shares no memory with the text that was handed in.
func TestNewMemory(t *testing.T) {
	text, _ := link.Make(3, 1, 7, "a payload")
	_, _, _, payload, _ := link.Read(text)
	taken, _ := link.NewReceiver(3, 2).Take(7, text)
	for name, answer := range map[string]string{"Read": payload, "Take": taken} {
		from, at := uintptr(unsafe.Pointer(unsafe.StringData(text))), uintptr(unsafe.Pointer(unsafe.StringData(answer)))
		if answer != "a payload" || at >= from && at < from+uintptr(len(text)) {
			t.Errorf("%s: %q, in the memory that was handed in: %v", name, answer, at >= from && at < from+uintptr(len(text)))
		}
	}
}
