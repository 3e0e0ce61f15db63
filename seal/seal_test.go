package seal_test

import (
	"math"
	"slices"
	"strings"
	"testing"

	"ballast/api"
	"ballast/seal"
)

// division is the remainder of the bytes, as a long division of a row of bits by the polynomial, with the first 32 bits turned: the sum's rule said another way.
func division(text string) int {
	bits := []int{}
	for _, b := range []byte(text + "\x00\x00\x00\x00") {
		for i := range 8 {
			bits = append(bits, int(b>>(7-i))&1)
		}
	}
	for i := range 32 {
		bits[i] ^= 1
	}
	divisor := []int{1}
	for i := range 32 {
		divisor = append(divisor, 0x04c11db7>>(31-i)&1)
	}
	for i := 0; i+32 < len(bits); i++ {
		if bits[i] == 0 {
			continue
		}
		for j, d := range divisor {
			bits[i+j] ^= d
		}
	}
	rest := 0
	for _, bit := range bits[len(bits)-32:] {
		rest = rest<<1 | bit
	}
	return rest
}

func big(n, width int) string {
	text := ""
	for range width {
		text = string([]byte{byte(n)}) + text
		n >>= 8
	}
	return text
}

// framed builds a frame by hand, with a length that may be another one than the body's.
func framed(length int, body string) string {
	covered := big(length, 2) + body
	return covered + big(division(covered), 4)
}

func bodies() []string {
	every := make([]byte, 256)
	for i := range every {
		every[i] = byte(i)
	}
	return []string{"", "\x00", "\xff", "a", "ab", "123456789", "\x00\x00\x00\x00", "\xff\xff\xff\xff", "\xc3\x28é", string(every),
		strings.Repeat("x", 255), strings.Repeat("\x00", 256), strings.Repeat("xy", 511) + "z", strings.Repeat("\xff", api.MaxBody)}
}

// P2.1, the chapter's first example.
func TestSumExample(t *testing.T) {
	if s := seal.Sum("123456789"); s != 0x0376e6e7 {
		t.Errorf("Sum(123456789) = %x", s)
	}
	if s := seal.Sum(); s != 0xffffffff {
		t.Errorf("Sum() = %x", s)
	}
	if s, e := seal.Seal(); e != api.OK || s != "\x00\x00"+big(seal.Sum("\x00\x00"), 4) {
		t.Errorf("Seal() = %x, %d", s, e)
	}
	if s, e := seal.Seal("a", "b"); e != api.OK || len(s) != 8 || s[:4] != "\x00\x02ab" {
		t.Errorf("Seal(a, b) = %x, %d", s, e)
	}
}

// P2.1, the chapter's second example.
func TestOpenExample(t *testing.T) {
	if s, e := seal.Open("\x00\x00\x00\x00\x00"); s != "" || e != api.ErrShort {
		t.Errorf("five bytes: %x, %d", s, e)
	}
	frame, _ := seal.Seal("ab")
	if s, e := seal.Open(frame + "x"); s != "" || e != api.ErrBytes {
		t.Errorf("a byte behind: %x, %d", s, e)
	}
}

// P2.1: the sum is the register's, for bytes of all kinds.
func TestSumIsTheRemainder(t *testing.T) {
	for _, body := range bodies() {
		if s := seal.Sum(body); s != division(body) {
			t.Errorf("Sum of %d bytes = %x, want %x", len(body), s, division(body))
		}
	}
	for b := range 256 {
		one := string([]byte{byte(b)})
		if s := seal.Sum(one); s != division(one) || s < 0 {
			t.Errorf("Sum(%x) = %x, want %x", one, s, division(one))
		}
	}
}

// P2.1: parts are taken one behind the other, empty ones and none at all too.
func TestParts(t *testing.T) {
	whole := "123456789"
	want, _ := seal.Seal(whole)
	for i := range len(whole) + 1 {
		for j := range i + 1 {
			parts := []string{whole[:j], whole[j:i], "", whole[i:]}
			if s := seal.Sum(parts...); s != seal.Sum(whole) {
				t.Errorf("Sum(%q) = %x", parts, s)
			}
			if s, e := seal.Seal(parts...); s != want || e != api.OK {
				t.Errorf("Seal(%q) = %x, %d", parts, s, e)
			}
		}
	}
	if seal.Sum("") != 0xffffffff || seal.Sum([]string(nil)...) != 0xffffffff {
		t.Error("sums of nothing differ")
	}
	none, _ := seal.Seal()
	if s, e := seal.Seal("", ""); s != none || e != api.OK {
		t.Errorf("Seal of empty parts = %x, %d", s, e)
	}
	if s, e := seal.Seal([]string(nil)...); s != none || e != api.OK {
		t.Errorf("Seal of no parts = %x, %d", s, e)
	}
}

// P2.1: a frame is the length, the body, and the sum of both.
func TestFrame(t *testing.T) {
	for _, body := range bodies() {
		if s, e := seal.Seal(body); s != framed(len(body), body) || e != api.OK {
			t.Errorf("Seal of %d bytes = %x, %d", len(body), s, e)
		}
	}
}

// P2.1: at the limit all is well, one byte more is ErrLong, however the parts share it.
func TestSealLong(t *testing.T) {
	full := strings.Repeat("x", api.MaxBody)
	for _, parts := range [][]string{{full}, {full[:1], full[1:]}, {full[:600], "", full[600:]}} {
		if s, e := seal.Seal(parts...); len(s) != api.MaxBody+6 || e != api.OK {
			t.Errorf("%d parts at the limit: %d bytes, %d", len(parts), len(s), e)
		}
	}
	for _, parts := range [][]string{{full + "x"}, {full, "x"}, {"x", full}, {full, full}, {strings.Repeat("x", 65536)}, {strings.Repeat("x", 65537)}} {
		if s, e := seal.Seal(parts...); s != "" || e != api.ErrLong {
			t.Errorf("%d parts above: %d bytes, %d", len(parts), len(s), e)
		}
	}
}

// P2.1: Open's errors, and which comes first; Next tells the same but of what stands behind the frame.
func TestOpenErrors(t *testing.T) {
	good := framed(2, "ab")
	spoilt := good[:7] + "\x00"
	for name, c := range map[string]struct {
		text string
		open api.Errno
		next api.Errno
	}{
		"nothing":                  {"", api.ErrShort, api.ErrShort},
		"one byte":                 {"\x00", api.ErrShort, api.ErrShort},
		"five bytes, long":         {"\xff\xff\x00\x00\x00", api.ErrShort, api.ErrShort},
		"length 1025, six bytes":   {"\x04\x01\x00\x00\x00\x00", api.ErrLong, api.ErrLong},
		"length 1025, too few":     {framed(1025, "ab"), api.ErrLong, api.ErrLong},
		"length 1025, as many":     {framed(1025, strings.Repeat("x", 1025)), api.ErrLong, api.ErrLong},
		"length 65535":             {framed(65535, ""), api.ErrLong, api.ErrLong},
		"length 65535, as many":    {framed(65535, strings.Repeat("x", 65535)), api.ErrLong, api.ErrLong},
		"length 1025, too many":    {framed(1025, strings.Repeat("x", 1040)), api.ErrLong, api.ErrLong},
		"length 1024, too few":     {framed(1024, strings.Repeat("x", 1023)), api.ErrShort, api.ErrShort},
		"length 3 of 2":            {framed(3, "ab"), api.ErrShort, api.ErrShort},
		"no last byte":             {good[:7], api.ErrShort, api.ErrShort},
		"length 1 of 2":            {framed(1, "ab"), api.ErrBytes, api.ErrSum},
		"a byte behind":            {good + "\x00", api.ErrBytes, api.OK},
		"spoilt, a byte behind":    {spoilt + "\x00", api.ErrBytes, api.ErrSum},
		"two frames":               {good + good, api.ErrBytes, api.OK},
		"spoilt":                   {spoilt, api.ErrSum, api.ErrSum},
		"six noughts":              {"\x00\x00\x00\x00\x00\x00", api.ErrSum, api.ErrSum},
		"sum of the body alone":    {"\x00\x02ab" + big(division("ab"), 4), api.ErrSum, api.ErrSum},
		"sum, least byte first":    {good[:4] + string([]byte{good[7], good[6], good[5], good[4]}), api.ErrSum, api.ErrSum},
		"length, least byte first": {"\x02\x00ab" + big(division("\x02\x00ab"), 4), api.ErrShort, api.ErrShort},
	} {
		t.Run(name, func(t *testing.T) {
			if s, e := seal.Open(c.text); s != "" || e != c.open {
				t.Errorf("Open = %x, %d; want %d", s, e, c.open)
			}
			s, at, e := seal.Next(c.text, 0)
			if e != c.next || e != api.OK && (s != "" || at != 0) || e == api.OK && (s != "ab" || at != 8) {
				t.Errorf("Next = %x, %d, %d; want %d", s, at, e, c.next)
			}
		})
	}
}

// P2.1: Next goes from frame to frame, and stops at the end.
func TestNext(t *testing.T) {
	text, ends := "", []int{}
	for _, body := range bodies() {
		text += framed(len(body), body)
		ends = append(ends, len(text))
	}
	at := 0
	for i, want := range bodies() {
		body, next, e := seal.Next(text, at)
		if body != want || next != ends[i] || e != api.OK {
			t.Fatalf("frame %d: %d bytes, %d, %d", i, len(body), next, e)
		}
		at = next
	}
	if body, next, e := seal.Next(text, at); body != "" || next != 0 || e != api.ErrShort {
		t.Errorf("at the end: %x, %d, %d", body, next, e)
	}
}

// P2.1: a place outside is ErrIndex, the text's length isn't.
func TestNextPlace(t *testing.T) {
	frame := framed(2, "ab")
	for _, at := range []int{-1, 9, 100, math.MinInt, math.MaxInt} {
		if s, next, e := seal.Next(frame, at); s != "" || next != 0 || e != api.ErrIndex {
			t.Errorf("place %d: %x, %d, %d", at, s, next, e)
		}
	}
	for _, at := range []int{3, 5, 8} {
		if s, next, e := seal.Next(frame, at); s != "" || next != 0 || e != api.ErrShort {
			t.Errorf("place %d: %x, %d, %d", at, s, next, e)
		}
	}
	if _, _, e := seal.Next("", 0); e != api.ErrShort {
		t.Errorf("of no text: %d", e)
	}
	if _, _, e := seal.Next("", 1); e != api.ErrIndex {
		t.Errorf("behind no text: %d", e)
	}
	if s, next, e := seal.Next("xyz"+frame+"x", 3); s != "ab" || next != 11 || e != api.OK {
		t.Errorf("inside: %x, %d, %d", s, next, e)
	}
	if s, next, e := seal.Next(framed(1025, "")+frame, 0); s != "" || next != 0 || e != api.ErrLong {
		t.Errorf("long ahead of a frame: %x, %d, %d", s, next, e)
	}
}

// P2.2: what Seal answers opens to the body.
func TestOpenOfSeal(t *testing.T) {
	for _, body := range bodies() {
		frame, _ := seal.Seal(body)
		if s, e := seal.Open(frame); s != body || e != api.OK {
			t.Errorf("Open of %d bytes' frame = %d bytes, %d", len(body), len(s), e)
		}
	}
}

// P2.2: what Open takes is what Seal would answer: of many texts near to frames, no other one is taken.
func TestSealOfOpen(t *testing.T) {
	for _, body := range bodies()[:9] {
		frame, _ := seal.Seal(body)
		for i := range frame {
			for b := range 256 {
				near := frame[:i] + string([]byte{byte(b)}) + frame[i+1:]
				got, e := seal.Open(near)
				if e == api.OK && near != frame {
					t.Errorf("%x is taken for %x", near, got)
				}
				if again, _ := seal.Seal(got); e == api.OK && again != near {
					t.Errorf("Seal of Open of %x is %x", near, again)
				}
			}
		}
	}
}

// P2.3: up to four neighbouring bytes of body and sum that are other ones are told, wherever they stand and whatever they are.
func TestSpoiltIsRefused(t *testing.T) {
	state := uint32(1)
	for _, body := range bodies() {
		frame, _ := seal.Seal(body)
		for i := 2; i < len(frame); i++ {
			for size := 1; size <= 4 && i+size <= len(frame); size++ {
				for range 3 {
					spoilt := []byte(frame)
					for j := range size {
						state = state*1664525 + 1013904223
						spoilt[i+j] ^= byte(1 + state>>24%255)
					}
					if s, e := seal.Open(string(spoilt)); s != "" || e != api.ErrSum {
						t.Fatalf("%d bytes at %d of %d: %x, %d", size, i, len(frame), s, e)
					}
				}
			}
		}
	}
}

// P2.3: of all ways to change one byte, and of all single and double bits, none is taken.
func TestSpoiltBits(t *testing.T) {
	frame, _ := seal.Seal("123456789")
	for i := 16; i < 8*len(frame); i++ {
		for j := i; j < min(i+32, 8*len(frame)); j++ {
			spoilt := []byte(frame)
			spoilt[i/8] ^= 1 << (7 - i%8)
			if j != i {
				spoilt[j/8] ^= 1 << (7 - j%8)
			}
			if s, e := seal.Open(string(spoilt)); s != "" || e != api.ErrSum {
				t.Fatalf("bits %d, %d: %x, %d", i, j, s, e)
			}
			if _, next, e := seal.Next("x"+string(spoilt), 1); next != 0 || e != api.ErrSum {
				t.Fatalf("Next, bits %d, %d: %d, %d", i, j, next, e)
			}
		}
	}
}

// R5: the parts that are handed in stay as they are.
func TestSealLeavesParts(t *testing.T) {
	parts := []string{"a", "b", "c", "d"}
	seal.Sum(parts[:2]...)
	seal.Seal(parts[:2]...)
	if !slices.Equal(parts, []string{"a", "b", "c", "d"}) {
		t.Errorf("changed: %q", parts)
	}
}
