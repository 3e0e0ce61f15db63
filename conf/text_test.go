package conf_test

import (
	"math"
	"regexp"
	"slices"
	"strconv"
	"strings"
	"testing"

	"ballast/api"
	"ballast/conf"
)

// smallText is the text of the small station, doubleText of the double one.
const (
	smallText = `section 0 0 0
section 1 0 0
section 0 0 0
section 0 0 0
section 0 0 1
joint 0 1 1 0
joint 1 1 2 0
joint 1 2 3 0
joint 2 1 4 0
signal 0 1
signal 2 1
route 0 1 0 path 1 0 1 2 0 1 flank overlap
route 1 -1 0 path 4 0 1 flank overlap
timing 2 1 4 1000
`
	doubleText = `section 0 0 0
section 1 0 0
section 0 1 0
section 0 2 0
section 0 0 0
section 1 3 0
section 0 1 0
section 0 2 1
joint 0 1 1 0
joint 1 1 2 0
joint 2 1 3 0
joint 4 1 5 1
joint 6 0 5 0
joint 6 1 7 0
joint 5 2 1 2
signal 0 1
signal 2 1
signal 4 1
signal 6 1
signal 7 0
crossing 6
crossing 2
route 0 1 0 path 1 0 1 2 0 1 flank 5 1 overlap 3
route 0 3 0 path 1 0 2 5 2 0 6 0 1 flank overlap
route 2 3 0 path 5 1 0 6 0 1 flank 1 1 overlap
route 3 -1 0 path 7 0 1 flank overlap
route 0 1 1 path 1 0 1 2 0 1 flank 5 1 overlap
route 4 -1 0 path 6 1 0 5 0 1 4 1 0 flank 1 1 overlap
route 1 -1 1 path 3 0 1 flank overlap
timing 3 2 9 5000
`
)

// anything is a configuration of any numbers and any lengths.
func anything(d *dice) api.Config {
	n := d.number
	var c api.Config
	for range d.throw(4) {
		c.Sections = append(c.Sections, api.Section{Kind: n(), OC: n(), Line: n()})
	}
	for range d.throw(4) {
		c.Joints = append(c.Joints, api.Joint{A: n(), AEnd: n(), B: n(), BEnd: n()})
	}
	for range d.throw(4) {
		c.Signals = append(c.Signals, api.Signal{Section: n(), End: n()})
	}
	for range d.throw(4) {
		c.Crossings = append(c.Crossings, n())
	}
	for range d.throw(4) {
		r := api.Route{Entry: n(), Exit: n(), Shunt: d.throw(2) == 0}
		for range d.throw(4) {
			r.Path = append(r.Path, api.Step{Section: n(), In: n(), Out: n()})
		}
		for range d.throw(4) {
			r.Flank = append(r.Flank, api.Need{Section: n(), Pos: n()})
		}
		for range d.throw(4) {
			r.Overlap = append(r.Overlap, n())
		}
		c.Routes = append(c.Routes, r)
	}
	c.Timing = api.Timing{Age: n(), Brake: n(), Hold: n(), Budget: n()}
	return c
}

// form is what a text looks like, but for its numbers' size.
var form = regexp.MustCompile(strings.ReplaceAll(`\A(section N N N\n)*(joint N N N N\n)*(signal N N\n)*(crossing N\n)*(route N N [01] path( N N N)* flank( N N)* overlap( N)*\n)*timing N N N N\n\z`, "N", `(0|-?[1-9][0-9]*)`))

var digits = regexp.MustCompile(`-?[0-9]+`)

// isText tells whether a text is some configuration's.
func isText(text string) bool {
	if !form.MatchString(text) {
		return false
	}
	for _, n := range digits.FindAllString(text, -1) {
		if _, err := strconv.ParseInt(n, 10, 64); err != nil {
			return false
		}
	}
	return true
}

// reads holds Read against whether the text is one, and what it takes against its Text.
func reads(t *testing.T, text string) bool {
	t.Helper()
	c, e := conf.Read(text)
	want := api.ErrLine
	if isText(text) {
		want = api.OK
	}
	if e != want {
		t.Fatalf("%q: %d, want %d", text, e, want)
	}
	if e != api.OK && !same(c, api.Config{}) {
		t.Fatalf("%q: %v beside %d", text, c, e)
	}
	if e == api.OK && conf.Text(c) != text {
		t.Fatalf("%q is read as %v", text, c)
	}
	return e == api.OK
}

// P6.1: the lines of stations, word by word, and back.
func TestText(t *testing.T) {
	far := api.Config{
		Sections:  sections([3]int{math.MinInt, math.MaxInt, -1}),
		Crossings: []int{-10, 10},
		Routes:    []api.Route{{Shunt: true}, {Entry: -5, Exit: -6, Path: steps([3]int{7, 8, 9}), Flank: needs([2]int{-1, 2}, [2]int{3, -4}), Overlap: []int{6, 5, 5}}},
		Timing:    api.Timing{Age: -1, Brake: math.MinInt, Hold: 100, Budget: 1 << 40},
	}
	for _, c := range []struct {
		c    api.Config
		text string
	}{
		{small(), smallText},
		{double(), doubleText},
		{api.Config{}, "timing 0 0 0 0\n"},
		{far, "section -9223372036854775808 9223372036854775807 -1\ncrossing -10\ncrossing 10\nroute 0 0 1 path flank overlap\nroute -5 -6 0 path 7 8 9 flank -1 2 3 -4 overlap 6 5 5\ntiming -1 -9223372036854775808 100 1099511627776\n"},
	} {
		if text := conf.Text(c.c); text != c.text {
			t.Errorf("Text: %q, want %q", text, c.text)
		}
		if got, e := conf.Read(c.text); e != api.OK || !same(got, c.c) {
			t.Errorf("Read: %d, %v, want %v", e, got, c.c)
		}
		if !isText(c.text) {
			t.Errorf("%q doesn't look like a text", c.text)
		}
	}
}

// P6.1: the station of the document's ten examples is read, and right.
func TestReadExamplesStation(t *testing.T) {
	text := strings.Replace(smallText, "signal 2 1\n", "signal 2 1\nsignal 4 0\n", 1)
	c, e := conf.Read(text)
	want := small()
	want.Signals = append(want.Signals, api.Signal{Section: 4, End: 0})
	if e != api.OK || !same(c, want) {
		t.Fatalf("%d, %v", e, c)
	}
	if e := conf.Check(c); e != api.OK {
		t.Errorf("%d", e)
	}
}

// P6.3: what is written is read as it was: stations, right ones and spoilt ones, and anything.
func TestReadUndoesText(t *testing.T) {
	d := dice(63)
	list := stations()
	for range 1000 {
		c := thrown(&d)
		list = append(list, c, spoilt(&d, c), anything(&d), anything(&d), anything(&d))
	}
	for _, c := range list {
		text := conf.Text(c)
		if !isText(text) {
			t.Fatalf("%v: %q", c, text)
		}
		got, e := conf.Read(text)
		if e != api.OK || !same(got, c) {
			t.Fatalf("%v: %d, %v", c, e, got)
		}
		if conf.Check(got) != conf.Check(c) {
			t.Fatalf("%v: it is checked otherwise when it was read", c)
		}
	}
}

// P6.1: texts that are none by one thing.
func TestReadNone(t *testing.T) {
	for _, c := range [][2]string{
		// blanks
		{"section 0 0 0\n", "section  0 0 0\n"}, {"section 0 0 0\n", " section 0 0 0\n"}, {"section 0 0 0\n", "section 0 0 0 \n"}, {"section 0 0 0\n", "section\t0 0 0\n"},
		{"signal 0 1\n", "signal 0 1\r\n"}, {"signal 0 1\n", "signal 0\u00a01\n"}, {"signal 0 1\n", "signal 01\n"}, {"signal 0 1\n", "signal0 1\n"}, {"crossing 6\n", "crossing  6\n"}, {"crossing 6\n", "crossing\n6\n"},
		{"0 path", "0  path"}, {"path 1", "path  1"}, {"path 7", "path7"}, {"0 path", "0path"}, {"flank 5", "flank  5"}, {"1 flank", "1  flank"}, {"flank overlap\n", "flank  overlap\n"}, {"flank overlap\n", "flankoverlap\n"}, {"flank overlap\n", "flank overlap \n"}, {"overlap 3\n", "overlap 3 \n"}, {"overlap 3\n", "overlap  3\n"}, {"timing 3", "timing  3"}, {"5000\n", "5000 \n"}, {"5000\n", "5000\v\n"},
		// digits
		{"section 1 3 0\n", "section +1 3 0\n"}, {"section 1 3 0\n", "section 01 3 0\n"}, {"section 1 3 0\n", "section 1 3 -0\n"}, {"section 1 3 0\n", "section 1 3 00\n"}, {"section 1 3 0\n", "section 1 3 -\n"}, {"section 1 3 0\n", "section 1 3 --1\n"}, {"section 1 3 0\n", "section 1 3 - 1\n"}, {"section 1 3 0\n", "section 1 3 0x1\n"}, {"section 1 3 0\n", "section 1 3 1e1\n"}, {"section 1 3 0\n", "section 1 3 1.0\n"}, {"section 1 3 0\n", "section 1 3 1_0\n"}, {"section 1 3 0\n", "section 1 3 x\n"}, {"section 1 3 0\n", "section 1 3 \u0663\n"}, {"section 1 3 0\n", "section 1 3 \n"}, {"section 1 3 0\n", "section 1 3 0\x00\n"},
		{"section 1 3 0\n", "section 1 3 9223372036854775808\n"}, {"section 1 3 0\n", "section 1 3 -9223372036854775809\n"}, {"section 1 3 0\n", "section 1 3 18446744073709551616\n"}, {"section 1 3 0\n", "section 1 3 -00\n"}, {"section 1 3 0\n", "section 1 3 -01\n"},
		{"-1 0 path 7", "-01 0 path 7"}, {"path 7 0 1", "path 7 0 01"}, {"flank 5 1", "flank 5 +1"}, {"overlap 3\n", "overlap 03\n"}, {"overlap 3\n", "overlap 9223372036854775808\n"}, {"overlap 3\n", "overlap three\n"}, {"flank 5 1", "flank x 1"}, {"path 7 0 1", "path 7 0 x"}, {"route 3", "route x"}, {"crossing 6\n", "crossing 06\n"}, {"timing 3", "timing -0"},
		{"route 0 1 1", "route 0 1 2"}, {"route 0 1 1", "route 0 1 -1"}, {"route 0 1 1", "route 0 1 01"}, {"route 0 1 1", "route 0 1 true"},
		// words
		{"section 1 3 0\n", "Section 1 3 0\n"}, {"section 1 3 0\n", "sections 1 3 0\n"}, {"section 1 3 0\n", "sec 1 3 0\n"}, {"section 1 3 0\n", "1 3 0\n"}, {"section 1 3 0\n", "section 1 3\n"}, {"section 1 3 0\n", "section 1 3 0 0\n"}, {"section 1 3 0\n", "section\n"}, {"section 1 3 0\n", "section section 1 3 0\n"}, {"section 1 3 0\n", "1 section 3 0\n"},
		{"joint 0 1 1 0\n", "joint 0 1 1\n"}, {"joint 0 1 1 0\n", "joint 0 1 1 0 0\n"}, {"joint 0 1 1 0\n", "point 0 1 1 0\n"}, {"signal 2 1\n", "signal 2\n"}, {"signal 2 1\n", "signal 2 1 0\n"}, {"crossing 2\n", "crossing\n"}, {"crossing 2\n", "crossing 2 3\n"}, {"timing 3 2 9 5000\n", "timing 3 2 9\n"}, {"timing 3 2 9 5000\n", "timing 3 2 9 5000 0\n"},
		{"route 0 1 0 path", "route 0 1 path"}, {"route 0 1 0 path", "route 0 1 0 0 path"}, {"route 0 1 0 path", "route path"}, {"path 7 0 1", "path 7 0"}, {"path 7 0 1", "path 7"}, {"path 7 0 1", "path 7 0 1 2"}, {"flank 5 1 ", "flank 5 "}, {"flank 5 1 ", "flank 5 1 2 "}, {"path 7 0 1", "7 0 1"}, {"path 7 0 1", "path path 7 0 1"}, {"flank 5 1 ", "5 1 "}, {"flank 5 1 ", "flank flank 5 1 "}, {"flank overlap\n", "flank\n"}, {"flank overlap\n", "overlap\n"}, {"flank overlap\n", "overlap flank\n"}, {"flank overlap\n", "flank overlap overlap\n"}, {"flank overlap\n", "flank overlap 3 flank\n"}, {"flank overlap\n", "overlap flank overlap\n"}, {"route 3 -1 0 path 7 0 1 flank overlap\n", "route 3 -1 0\n"}, {"route 3 -1 0 path 7 0 1 flank overlap\n", "route\n"}, {"route 3 -1 0 path 7 0 1 flank", "route 3 -1 0 flank path 7 0 1"}, {"route 3", "Route 3"}, {"path 7", "Path 7"},
		// lines
		{"timing 3 2 9 5000\n", "timing 3 2 9 5000"}, {"timing 3 2 9 5000\n", ""}, {"timing 3 2 9 5000\n", "timing 3 2 9 5000\n\n"}, {"timing 3 2 9 5000\n", "timing 3 2 9 5000\ntiming 3 2 9 5000\n"}, {"timing 3 2 9 5000\n", "timing 3 2 9 5000\nsection 0 0 0\n"}, {"timing 3 2 9 5000\n", "timing 3 2 9 5000\nstart\n"}, {"crossing 6\n", "\ncrossing 6\n"}, {"crossing 6\n", "# a crossing\ncrossing 6\n"}, {"crossing 6\ncrossing 2\n", "crossing 6 crossing 2\n"}, {"crossing 6\ncrossing 2\n", "crossing 6\rcrossing 2\n"},
		// order
		{"joint 5 2 1 2\nsignal 0 1\n", "signal 0 1\njoint 5 2 1 2\n"}, {"section 0 2 1\njoint 0 1 1 0\n", "joint 0 1 1 0\nsection 0 2 1\n"}, {"signal 7 0\ncrossing 6\n", "crossing 6\nsignal 7 0\n"}, {"crossing 2\nroute 0 1 0 path 1 0 1 2 0 1 flank 5 1 overlap 3\n", "route 0 1 0 path 1 0 1 2 0 1 flank 5 1 overlap 3\ncrossing 2\n"}, {"route 1 -1 1 path 3 0 1 flank overlap\ntiming 3 2 9 5000\n", "timing 3 2 9 5000\nroute 1 -1 1 path 3 0 1 flank overlap\n"},
	} {
		text := strings.Replace(doubleText, c[0], c[1], 1)
		if text == doubleText {
			t.Fatalf("no %q to be spoilt", c[0])
		}
		if got, e := conf.Read(text); e != api.ErrLine || !same(got, api.Config{}) {
			t.Errorf("%q for %q: %d, %v", c[1], c[0], e, got)
		}
	}
	for _, text := range []string{"", "\n", " ", "timing", "timing\n", "section 0 0 0\n", "timing 0 0 0 0", "timing 0 0 0 0\n ", "\xef\xbb\xbftiming 0 0 0 0\n", "\x00", "route", "path flank overlap", doubleText + doubleText} {
		if got, e := conf.Read(text); e != api.ErrLine || !same(got, api.Config{}) {
			t.Errorf("%q: %d, %v", text, e, got)
		}
	}
}

// P6.1, P6.3: each text that differs from a station's in one byte, in a byte less or a byte more, and each of its beginnings and ends.
func TestReadEachByte(t *testing.T) {
	text, taken := doubleText[strings.Index(doubleText, "section 1 3"):], 0
	count := func(text string) {
		if reads(t, text) {
			taken++
		}
	}
	for i := range len(text) + 1 {
		count(text[:i])
		count(text[i:])
		for _, b := range "\n\r\t -+0159apk\x00\u00a0" {
			count(text[:i] + string(b) + text[i:])
			if i < len(text) {
				count(text[:i] + string(b) + text[i+1:])
			}
		}
		if i < len(text) {
			count(text[:i] + text[i+1:])
		}
	}
	if taken < 1000 {
		t.Errorf("%d texts were taken", taken)
	}
}

// P6.1, P6.3: texts whose lines and words are thrown about.
func TestReadThrown(t *testing.T) {
	d, count := dice(36), map[bool]int{}
	words := []string{"section", "joint", "signal", "crossing", "route", "path", "flank", "overlap", "timing", "0", "1", "-1", "", "00", "9223372036854775808"}
	for range 15000 {
		lines := strings.Split(conf.Text(anything(&d)), "\n")
		at := d.throw(len(lines))
		row := strings.Split(lines[at], " ")
		word := d.throw(len(row))
		switch d.throw(7) {
		case 0:
			lines[at], lines[0] = lines[0], lines[at]
		case 1:
			lines = slices.Delete(lines, at, at+1)
		case 2:
			lines = slices.Insert(lines, at, lines[d.throw(len(lines))])
		case 3:
			row[word] = words[d.throw(len(words))]
		case 4:
			row = slices.Delete(row, word, word+1)
		case 5:
			row = slices.Insert(row, word, words[d.throw(len(words))])
		}
		if at < len(lines) && len(row) > 0 && lines[at] != "" {
			lines[at] = strings.Join(row, " ")
		}
		count[reads(t, strings.Join(lines, "\n"))]++
	}
	if count[true] < 1500 || count[false] < 1500 {
		t.Errorf("%v", count)
	}
}

// P6.1: a long text and a long line.
func TestReadLong(t *testing.T) {
	const size = 20000
	c := api.Config{Sections: make([]api.Section, size), Routes: []api.Route{{Path: make([]api.Step, size), Flank: make([]api.Need, size), Overlap: make([]int, size)}}}
	c.Routes[0].Path[size-1].Out = 7
	got, e := conf.Read(conf.Text(c))
	if e != api.OK || !same(got, c) {
		t.Errorf("%d, %d sections", e, len(got.Sections))
	}
}

// R4, R5: a text is read the same each time, in new memory; no two lists of it share any.
func TestReadIsNew(t *testing.T) {
	first, _ := conf.Read(doubleText)
	again, _ := conf.Read(doubleText)
	if !same(first, again) {
		t.Fatalf("%v, then %v", first, again)
	}
	for i := range first.Routes {
		r := &first.Routes[i]
		r.Path = append(r.Path, api.Step{})
		clear(r.Path)
		r.Flank = append(r.Flank, api.Need{})
		clear(r.Flank)
		r.Overlap = append(r.Overlap, 9)
	}
	for i, r := range first.Routes {
		want := double().Routes[i]
		if len(r.Path) != len(want.Path)+1 || len(r.Flank) != len(want.Flank)+1 || !slices.Equal(r.Overlap, append(want.Overlap, 9)) {
			t.Errorf("the route %d is changed: %v", i, r)
		}
	}
	clear(first.Sections)
	clear(first.Joints)
	clear(first.Routes)
	if !same(again, double()) {
		t.Errorf("one answer changes the other: %v", again)
	}
}
