package utf_test

import (
	"bytes"
	"math"
	"strings"
	"testing"
	"unicode/utf8"

	"etui/utf"
)

// farSigns are numbers that are no signs, and far from them.
var farSigns = []int{-1, -2, -128, -65536, math.MinInt32, math.MinInt32 + 'a', 0x110000, 0x110001, 0x200000, 0x1000061, math.MaxInt32 - 1, math.MaxInt32}

// farPlaces are places that no bytes have.
var farPlaces = []int{-1, -2, -1 << 31, -1 << 32, math.MinInt, math.MinInt + 1, 1 << 31, 1 << 32, 1 << 62, math.MaxInt - 1, math.MaxInt}

// someTexts are texts of XML's signs, and such as aren't.
var someTexts = []string{"", "a", "é", "€", "😀", "\x00", "\x7f", "\ufffd", "\ufffe", "\uffff", "a\r\nb\rc\n\r\r\n", "\ufeff", "\ufeff\ufeffa", "\r\ufeff", "\xef\xbb", "\xff",
	"\xc3", "é\xc3", "\xc0\x80", "\xed\xa0\x80", "\xf4\x90\x80\x80", "\U0010ffff", "\U000effff", "a-b.c1·", "<a b=\"1\"/>", "日本語", "\u2028\u0085", "\xe2\x82", "\xf0\x9f\x98"}

// numbers are numbers in no order, the same ones each time.
type numbers struct{ x uint32 }

func (s *numbers) below(n int) int {
	s.x = s.x*1664525 + 1013904223
	return int(s.x>>8) % n
}

// allNumbers are those of all signs, those between and beside them, and far ones.
func allNumbers(yield func(int) bool) {
	for r := -300; r < 0x110300; r++ {
		if !yield(r) {
			return
		}
	}
	for _, r := range farSigns {
		if !yield(r) {
			return
		}
	}
}

// wantNext asks whether Next answers what the chapter tells of a place.
func wantNext(t *testing.T, b []byte, at int) {
	t.Helper()
	r, n := utf.Next(b, at)
	if want, wantN := slowNext(b, at); r != want || n != wantN {
		t.Fatalf("%q at %d: %x, %d bytes, want %x, %d", b, at, r, n, want, wantN)
	}
}

// wantSame asks whether the calls answer what the chapter tells of some bytes.
func wantSame(t *testing.T, b []byte) {
	t.Helper()
	for at := range len(b) + 2 {
		wantNext(t, b, at)
	}
	at, ok := utf.Check(b)
	if want, wantOK := slowCheck(b); at != want || ok != wantOK {
		t.Fatalf("check %q: %d, %v, want %d, %v", b, at, ok, want, wantOK)
	}
	if x, want := utf.Name(string(b)), slowName(string(b)); x != want {
		t.Fatalf("name %q: %v, want %v", b, x, want)
	}
	if x, want := utf.Lines(b), slowLines(b); !bytes.Equal(x, want) {
		t.Fatalf("lines %q: %q, want %q", b, x, want)
	}
	if x, want := utf.Strip(b), slowStrip(b); !bytes.Equal(x, want) {
		t.Fatalf("strip %q: %q, want %q", b, x, want)
	}
}

// P11.1: signs

func TestTheExample(t *testing.T) {
	if r, n := utf.Next([]byte{0xe2, 0x82, 0xac}, 0); r != 8364 || n != 3 {
		t.Error(r, n)
	}
}

func TestAllSigns(t *testing.T) {
	for r := range allNumbers {
		x, ok := utf.Put([]byte("é\xc3"), rune(r))
		want := "é\xc3"
		if slowIsSign(r) {
			want += slowBytes(r)
		}
		if ok != slowIsSign(r) || string(x) != want {
			t.Fatalf("%x: %q, %v, want %q", r, x, ok, want)
		}
		if !ok {
			continue
		}
		if y, n := utf.Next(x, 3); int(y) != r || n != len(x)-3 {
			t.Fatalf("%x, as %q: %x, %d bytes", r, x, y, n)
		}
	}
}

// The least and the greatest signs of so many bytes each, byte by byte.
func TestEdgesOfSigns(t *testing.T) {
	for r, want := range map[rune]string{0: "\x00", 127: "\x7f", 128: "\xc2\x80", 2047: "\xdf\xbf", 2048: "\xe0\xa0\x80", 55295: "\xed\x9f\xbf", 57344: "\xee\x80\x80",
		65533: "\xef\xbf\xbd", 65535: "\xef\xbf\xbf", 65536: "\xf0\x90\x80\x80", 1114111: "\xf4\x8f\xbf\xbf"} {
		if x, ok := utf.Put(nil, r); !ok || string(x) != want {
			t.Errorf("%d: %q, %v, want %q", r, x, ok, want)
		}
		if x, n := utf.Next([]byte(want), 0); x != r || n != len(want) {
			t.Errorf("%q: %d, %d bytes, want %d", want, x, n, r)
		}
		for cut := range len(want) {
			if x, n := utf.Next([]byte(want[:cut]), 0); x != 0 || n != 0 {
				t.Errorf("%q: %d, %d bytes", want[:cut], x, n)
			}
		}
	}
	for _, r := range []rune{-1, 55296, 56320, 57343, 1114112} {
		for _, b := range someTexts {
			if x, ok := utf.Put([]byte(b), r); ok || string(x) != b {
				t.Errorf("%d behind %q: %q, %v", r, b, x, ok)
			}
		}
	}
}

// All rows of up to three bytes.
func TestAllShortRows(t *testing.T) {
	for i := range 1 << 24 {
		b := []byte{byte(i >> 16), byte(i >> 8), byte(i)}
		wantNext(t, b, 0)
		if i < 1<<16 {
			wantNext(t, b[1:], 0)
			wantNext(t, b[2:], 0)
			wantNext(t, b[1:], 1)
		}
	}
}

// Rows of four bytes: all that may be a sign's by their first bytes, and beside them.
func TestFourBytes(t *testing.T) {
	edges := []byte{0, 'a', 0x7f, 0x80, 0x8f, 0x90, 0x9f, 0xa0, 0xbe, 0xbf, 0xc0, 0xc2, 0xff}
	for first := 0xe0; first < 0x100; first++ {
		for second := range 0x100 {
			for _, third := range edges {
				for _, fourth := range edges {
					b := []byte{byte(first), byte(second), third, fourth, 0x80}
					wantNext(t, b, 0)
					wantNext(t, b[:4], 0)
				}
			}
		}
	}
}

func TestPlaces(t *testing.T) {
	text := []byte("aé€😀\x00z")
	for at, want := range []struct {
		r rune
		n int
	}{{'a', 1}, {'é', 2}, {}, {'€', 3}, {}, {}, {'😀', 4}, {}, {}, {}, {0, 1}, {'z', 1}, {}, {}} {
		if r, n := utf.Next(text, at); r != want.r || n != want.n {
			t.Errorf("at %d: %x, %d bytes, want %x, %d", at, r, n, want.r, want.n)
		}
	}
	for _, at := range farPlaces {
		for _, b := range [][]byte{text, nil, {}, {'a'}} {
			if r, n := utf.Next(b, at); r != 0 || n != 0 {
				t.Errorf("%q at %d: %x, %d bytes", b, at, r, n)
			}
		}
	}
	// What is behind the length isn't looked at.
	if r, n := utf.Next([]byte("é")[:1], 0); r != 0 || n != 0 {
		t.Error(r, n)
	}
}

func TestCheck(t *testing.T) {
	for b, want := range map[string]int{"": -1, "a\t\n\r é€😀": -1, "\x7f\u0080\u0085": -1, "\ue000\ufffd\U00010000\U0010ffff": -1, "\ufeff": -1, "\U0001ffff": -1,
		"\x00": 0, "a\x00": 1, "é\x1f": 2, "a\ufffe": 1, "€\uffff": 3, "ab\xc3": 2, "ab\xe2\x82": 2, "a\xe2\x82b": 1, "😀\x80": 4, "\xed\xa0\x80": 0, "a\xc0\xaf": 1, "a\x0b\x0c": 1,
		"a\xf4\x90\x80\x80": 1, "\xff": 0, "\x08\xff": 0, "\xff\x08": 0} {
		at, ok := utf.Check([]byte(b))
		if ok != (want < 0) || at != max(want, 0) {
			t.Errorf("%q: %d, %v, want %d", b, at, ok, want)
		}
	}
	for r := range allNumbers {
		if !slowIsSign(r) {
			continue
		}
		at, ok := utf.Check([]byte("é" + slowBytes(r) + "b"))
		if slowChar(r) && (at != 0 || !ok) || !slowChar(r) && (at != 2 || ok) {
			t.Errorf("%x: %d, %v", r, at, ok)
		}
	}
}

// One wrong byte far behind.
func TestCheckOfMany(t *testing.T) {
	text := strings.Repeat("one, é, 日, 😀.\n", 1<<16)
	if at, ok := utf.Check([]byte(text)); at != 0 || !ok {
		t.Error(at, ok)
	}
	if at, ok := utf.Check([]byte(text + "\x1b" + text)); at != len(text) || ok {
		t.Error(at, ok)
	}
}

// P11.2: what XML makes of signs

func TestWhatSignsAre(t *testing.T) {
	for r := range allNumbers {
		for name, c := range map[string][2]bool{
			"Char":   {utf.Char(rune(r)), slowChar(r)},
			"Blank":  {utf.Blank(rune(r)), slowBlank(r)},
			"Begins": {utf.Begins(rune(r)), slowBegins(r)},
			"Goes":   {utf.Goes(rune(r)), slowGoes(r)},
		} {
			if c[0] != c[1] {
				t.Errorf("%s of %x: %v, want %v", name, r, c[0], c[1])
			}
		}
	}
}

// The edges of the chapter's spans, one by one: the signs ahead of and behind them
// are others.
func TestEdgesOfSpans(t *testing.T) {
	for _, c := range []struct {
		name        string
		is          func(rune) bool
		first, last rune
	}{
		{"char", utf.Char, 9, 10}, {"char", utf.Char, 13, 13}, {"char", utf.Char, 32, 55295}, {"char", utf.Char, 57344, 65533}, {"char", utf.Char, 65536, 1114111},
		{"blank", utf.Blank, 9, 10}, {"blank", utf.Blank, 13, 13}, {"blank", utf.Blank, 32, 32},
		{"begins", utf.Begins, 'A', 'Z'}, {"begins", utf.Begins, '_', '_'}, {"begins", utf.Begins, 'a', 'z'}, {"begins", utf.Begins, 0xc0, 0xd6},
		{"begins", utf.Begins, 0xd8, 0xf6}, {"begins", utf.Begins, 0xf8, 0x2ff}, {"begins", utf.Begins, 0x370, 0x37d}, {"begins", utf.Begins, 0x37f, 0x1fff},
		{"begins", utf.Begins, 0x200c, 0x200d}, {"begins", utf.Begins, 0x2070, 0x218f}, {"begins", utf.Begins, 0x2c00, 0x2fef}, {"begins", utf.Begins, 0x3001, 0xd7ff},
		{"begins", utf.Begins, 0xf900, 0xfdcf}, {"begins", utf.Begins, 0xfdf0, 0xfffd}, {"begins", utf.Begins, 0x10000, 0xeffff},
		{"goes", utf.Goes, '-', '.'}, {"goes", utf.Goes, '0', '9'}, {"goes", utf.Goes, 0xb7, 0xb7}, {"goes", utf.Goes, 0xf8, 0x37d}, {"goes", utf.Goes, 0x203f, 0x2040},
	} {
		if !c.is(c.first) || !c.is(c.last) || c.is(c.first-1) || c.is(c.last+1) {
			t.Errorf("%s, %x to %x: %v, %v; beside them %v, %v", c.name, c.first, c.last, c.is(c.first), c.is(c.last), c.is(c.first-1), c.is(c.last+1))
		}
	}
}

func TestNames(t *testing.T) {
	for s, want := range map[string]bool{"a": true, "_": true, "Z9": true, "É": true, "a-b.c1": true, "a·": true, "xml": true, "日本": true, "a\u203f": true, "\U000effff": true, strings.Repeat("n", 1<<20): true,
		"": false, "1a": false, "-a": false, ".": false, ":": false, "a:b": false, ":a": false, "a:": false, "a b": false, " a": false, "a ": false, "a\n": false, "a/b": false, "a×": false, "·a": false, "a\x00": false, "\x00": false,
		"a\xff": false, "\xff": false, "\xffa": false, "a\xc3": false, "a\xc1\xa1": false, "\xc1\xa1": false, "a\xed\xa0\x80": false, "\u0300": false, "\U000f0000": false, strings.Repeat("n", 1<<20) + ":": false} {
		if utf.Name(s) != want {
			t.Errorf("%.50q: %v, want %v", s, !want, want)
		}
	}
	for r := range allNumbers {
		if slowIsSign(r) && (utf.Name(slowBytes(r)) != slowBegins(r) || utf.Name("a"+slowBytes(r)) != slowGoes(r) || utf.Name("é1"+slowBytes(r)+"b") != slowGoes(r)) {
			t.Errorf("%x", r)
		}
	}
}

func TestLines(t *testing.T) {
	for b, want := range map[string]string{"": "", "\n": "\n", "\r": "\n", "\r\n": "\n", "\n\r": "\n\n", "\r\r": "\n\n", "\r\r\n": "\n\n", "\r\n\r\n": "\n\n", "\r\n\n": "\n\n", "a\r": "a\n", "a\rb\r\nc\nd": "a\nb\nc\nd",
		"\u0085\u2028": "\u0085\u2028", "\xff\r\xff": "\xff\n\xff", "\x0d\x0c\x0b": "\n\x0c\x0b", "&#13;": "&#13;"} {
		if x := utf.Lines([]byte(b)); string(x) != want {
			t.Errorf("%q: %q, want %q", b, x, want)
		}
	}
	long := strings.Repeat("a\r\n", 100000) + strings.Repeat("\r", 100000)
	if x := utf.Lines([]byte(long)); string(x) != strings.Repeat("a\n", 100000)+strings.Repeat("\n", 100000) {
		t.Error(len(x))
	}
}

func TestStrip(t *testing.T) {
	for b, want := range map[string]string{"": "", "a": "a", "\ufeff": "", "\ufeffa": "a", "\ufeff\ufeffa": "\ufeffa", "a\ufeff": "a\ufeff", " \ufeffa": " \ufeffa", "\xef": "\xef", "\xef\xbb": "\xef\xbb", "\xef\xbb\xbe": "\xef\xbb\xbe",
		"\xef\xbfa\xbb": "\xef\xbfa\xbb", "\xfe\xff\x00a": "\xfe\xff\x00a", "\xff\xfea\x00": "\xff\xfea\x00", "\xef\xbb\xbf\xff": "\xff"} {
		if x := utf.Strip([]byte(b)); string(x) != want {
			t.Errorf("%q: %q, want %q", b, x, want)
		}
	}
}

// All texts of a few signs and bytes, up to a length.
func TestAllShortTexts(t *testing.T) {
	pieces := []string{"a", "1", ":", "\r", "\n", "é", "·", "\ufeff", "\x80", "\xef", "\xbb", "\x00"}
	texts := []string{""}
	for range 4 {
		var longer []string
		for _, text := range texts {
			wantSame(t, []byte(text))
			for _, piece := range pieces {
				longer = append(longer, text+piece)
			}
		}
		texts = longer
	}
	for _, text := range texts {
		wantSame(t, []byte(text))
	}
}

// Texts of signs in no order, some with a byte that is another.
func TestAnyTexts(t *testing.T) {
	s := &numbers{1357}
	limits := []int{128, 2048, 65536, 1114112}
	good := 0
	for range 50000 {
		var b []byte
		for range s.below(12) {
			b, _ = utf.Put(b, rune(s.below(limits[s.below(4)])))
		}
		if len(b) > 0 && s.below(2) == 0 {
			b[s.below(len(b))] = byte(s.below(256))
		}
		if utf8.Valid(b) {
			good++
		}
		wantSame(t, b)
	}
	if good < 10000 || good > 40000 {
		t.Error(good)
	}
}

// P11.3: memory

// scribble writes to all of a list, and to the room behind it.
func scribble(b []byte) {
	b = b[:cap(b)]
	for i := range b {
		b[i] ^= 255
	}
}

// roomy: bytes with room behind them, in which there is something.
func roomy(text string) []byte {
	return []byte(text + "behind the length\r\n")[:len(text)]
}

// wantKept asks whether roomy bytes, and what is behind them, are as they were.
func wantKept(t *testing.T, b []byte, text string) {
	t.Helper()
	if were := roomy(text); !bytes.Equal(b[:cap(b)][:len(text)+19], were[:cap(were)][:len(text)+19]) {
		t.Errorf("%q is changed", text)
	}
}

// calls are those that answer bytes.
func calls() map[string]func([]byte) []byte {
	put := func(r rune) func([]byte) []byte {
		return func(b []byte) []byte {
			x, _ := utf.Put(b, r)
			return x
		}
	}
	return map[string]func([]byte) []byte{"Put": put('é'), "Put of none": put(-1), "Lines": utf.Lines, "Strip": utf.Strip}
}

func TestNothingIsChanged(t *testing.T) {
	for name, call := range calls() {
		for _, text := range someTexts {
			b := roomy(text)
			x := call(b)
			want := bytes.Clone(x)
			wantKept(t, b, text)
			// What is written to the answer isn't seen in what was handed in.
			scribble(x)
			wantKept(t, b, text)
			// Nor in a later answer.
			if y := call(b); !bytes.Equal(y, want) {
				t.Errorf("%s of %q: %q, want %q", name, text, y, want)
			}
		}
	}
	for _, text := range someTexts {
		b := roomy(text)
		utf.Check(b)
		utf.Next(b, 0)
		utf.Name(text)
		wantKept(t, b, text)
	}
}

// What is written later to what was handed in isn't seen in the answer.
func TestNothingIsKept(t *testing.T) {
	for name, call := range calls() {
		for _, text := range someTexts {
			b := roomy(text)
			x, other := call(b), call(b)
			want := bytes.Clone(x)
			scribble(b)
			scribble(other)
			if !bytes.Equal(x, want) {
				t.Errorf("%s of %q is changed", name, text)
			}
		}
	}
}

func FuzzBytes(f *testing.F) {
	for _, text := range someTexts {
		f.Add([]byte(text))
	}
	f.Fuzz(func(t *testing.T, b []byte) { wantSame(t, b) })
}
