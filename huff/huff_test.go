package huff_test

import (
	"math"
	"slices"
	"strings"
	"testing"

	"etui/api"
	"etui/bits"
	"etui/huff"
)

// farNumbers are no symbols, and no lengths.
var farNumbers = []int{-1, -2, -320, 320, 321, 1 << 31, 1 << 32, 1 << 40, math.MaxInt - 1, math.MaxInt, math.MinInt, math.MinInt + 1}

// someLengths: lists of lengths that aren't too many, of all kinds.
func someLengths() [][]int {
	list := [][]int{
		nil, {}, {0}, {0, 0, 0}, {1}, {0, 1}, {15}, {0, 0, 7, 0}, {1, 1}, {2, 1, 2}, {2, 0, 1, 3},
		{3, 3, 3, 3, 3, 2, 4, 4}, {2, 2, 2}, {15, 15}, {1, 15}, {15, 1, 0, 15}, {4, 2, 9}, make([]int, 320),
		staircase(), slices.Concat(slices.Repeat([]int{0}, 304), staircase()), fixed(),
		slices.Repeat([]int{5}, 32), slices.Repeat([]int{5}, 30), slices.Repeat([]int{15}, 320),
		slices.Concat(slices.Repeat([]int{9}, 128), slices.Repeat([]int{8}, 192)),
	}
	rows := &numbers{12345}
	for range 60 {
		list = append(list, rows.lengths(1+rows.below(320)))
	}
	return list
}

// staircase: the lengths 1, 2, 3 and so on up to 15, and 15 once more.
func staircase() []int {
	var lengths []int
	for n := 1; n <= 15; n++ {
		lengths = append(lengths, n)
	}
	return append(lengths, 15)
}

// fixed: 288 lengths that are complete.
func fixed() []int {
	return slices.Concat(slices.Repeat([]int{8}, 144), slices.Repeat([]int{9}, 112), slices.Repeat([]int{7}, 24), slices.Repeat([]int{8}, 8))
}

// numbers are numbers in no order, the same ones each time.
type numbers struct{ x uint32 }

func (s *numbers) below(n int) int {
	s.x = s.x*1664525 + 1013904223
	return int(s.x>>8) % n
}

// lengths: n lengths that aren't too many.
func (s *numbers) lengths(n int) []int {
	lengths := make([]int, n)
	left := 32768
	for range n {
		length := s.below(16)
		if length == 0 || 32768>>length > left {
			continue
		}
		lengths[s.below(n)] = length
		left = 32768 - slowRoom(lengths)
	}
	return lengths
}

func slowRoom(lengths []int) int {
	sum := 0
	for _, n := range lengths {
		if n == 0 {
			continue
		}
		part := 32768
		for range n {
			part /= 2
		}
		sum += part
	}
	return sum
}

// slowCodes: the codes as rows of 0 and 1, one after the other, as the chapter
// tells it; an empty one for a symbol that has none.
func slowCodes(lengths []int) []string {
	codes := make([]string, len(lengths))
	ahead := ""
	for n := 1; n <= 15; n++ {
		for sym, length := range lengths {
			if length != n {
				continue
			}
			code := ""
			if ahead != "" {
				code = oneMore(ahead)
			}
			ahead = code + strings.Repeat("0", n-len(code))
			codes[sym] = ahead
		}
	}
	return codes
}

// oneMore: the number of a row of 0 and 1, highest first, and one.
func oneMore(row string) string {
	b := []byte(row)
	for i := len(b) - 1; i >= 0; i-- {
		if b[i] == '0' {
			b[i] = '1'
			return string(b)
		}
		b[i] = '0'
	}
	return "1" + string(b)
}

// slowNext: the symbol whose code a row of bits begins with, bit by bit.
func slowNext(codes []string, row string) (int, api.Errno) {
	for n := 1; n <= len(row); n++ {
		sym := slices.Index(codes, row[:n])
		if sym >= 0 {
			return sym, api.OK
		}
		begins := func(code string) bool { return strings.HasPrefix(code, row[:n]) }
		if !slices.ContainsFunc(codes, begins) {
			return 0, api.ErrForm
		}
	}
	return 0, api.ErrEnd
}

// rowOf: the lowest n bits of v as 0 and 1, the lowest one first.
func rowOf(v uint32, n int) string {
	b := make([]byte, n)
	for i := range b {
		b[i] = byte('0' + v>>i&1)
	}
	return string(b)
}

// readerOf: a reader that has just these bits left.
func readerOf(t *testing.T, row string) *bits.Reader {
	t.Helper()
	w := bits.NewWriter()
	ahead := (8 - len(row)%8) % 8
	w.Put(0x55, ahead)
	for _, x := range row {
		w.Put(uint32(x-'0'), 1)
	}
	r := bits.NewReader(w.Out())
	if !r.Skip(ahead) || r.Left() != len(row) {
		t.Fatalf("%d bits left, want %d", r.Left(), len(row))
	}
	return r
}

func codeOf(t *testing.T, lengths ...int) *huff.Code {
	t.Helper()
	c, e := huff.New(lengths)
	if c == nil || e != api.OK {
		t.Fatalf("New(%v): %v", lengths, e)
	}
	return c
}

func wantNone(t *testing.T, lengths []int, want api.Errno) {
	t.Helper()
	if c, e := huff.New(lengths); c != nil || e != want {
		t.Errorf("New(%v): %v %d, want %d", lengths, c, e, want)
	}
}

// wantCodes asks for the codes of all symbols, as rows of 0 and 1.
func wantCodes(t *testing.T, c *huff.Code, codes []string) {
	t.Helper()
	for sym, code := range codes {
		v, n, ok := c.Bits(sym)
		if n != len(code) || ok != (code != "") || v>>n != 0 || rowOf(v, n) != code {
			t.Errorf("code of %d: %b, %d bits, %v, want %q", sym, v, n, ok, code)
		}
	}
}

// wantNext asks what Next answers, and where the reader then stands.
func wantNext(t *testing.T, c *huff.Code, r *bits.Reader, sym int, e api.Errno, behind int) {
	t.Helper()
	at := r.At()
	got, errno := c.Next(r)
	if got != sym || errno != e || r.At() != behind {
		t.Fatalf("Next at %d: %d, errno %d, at %d, want %d, errno %d, at %d", at, got, errno, r.At(), sym, e, behind)
	}
}

// P4.1

func TestRoom(t *testing.T) {
	for _, c := range []struct {
		lengths []int
		want    int
	}{
		{nil, 0}, {[]int{}, 0}, {[]int{0}, 0}, {make([]int, 320), 0}, {[]int{1}, 16384}, {[]int{15}, 1},
		{[]int{0, 14, 0}, 2}, {[]int{2, 1, 2}, 32768}, {[]int{1, 2, 15, 0}, 24577}, {[]int{1, 1, 15}, 32769},
		{[]int{1, 1, 1}, 49152}, {slices.Repeat([]int{1}, 320), 320 * 16384}, {slices.Repeat([]int{15}, 320), 320},
		{staircase(), 32768}, {staircase()[:15], 32767}, {fixed(), 32768},
	} {
		if n, ok := huff.Room(c.lengths); n != c.want || !ok {
			t.Errorf("Room(%v): %d %v, want %d", c.lengths, n, ok, c.want)
		}
	}
	for n := 1; n <= 15; n++ {
		if room, ok := huff.Room([]int{0, n}); room != 1<<(15-n) || !ok {
			t.Errorf("Room of %d: %d %v", n, room, ok)
		}
	}
	for _, lengths := range someLengths() {
		if n, ok := huff.Room(lengths); n != slowRoom(lengths) || !ok {
			t.Errorf("Room(%v): %d %v", lengths, n, ok)
		}
	}
}

// noLengths: lists that are no lengths.
func noLengths() [][]int {
	list := [][]int{make([]int, 321), slices.Repeat([]int{1}, 321), slices.Repeat([]int{15}, 321), make([]int, 5000)}
	for _, n := range append([]int{16, 17, -16}, farNumbers...) {
		list = append(list, []int{n}, []int{1, n}, []int{n, 1}, []int{1, 1, 1, n}, append(make([]int, 319), n))
	}
	return list
}

func TestRoomOutOfBounds(t *testing.T) {
	for _, lengths := range noLengths() {
		if n, ok := huff.Room(lengths); n != 0 || ok {
			t.Errorf("Room(%v): %d %v", lengths, n, ok)
		}
	}
}

// Lengths that are none are told as that, even if they are too many as well.
func TestNewOutOfBounds(t *testing.T) {
	for _, lengths := range noLengths() {
		wantNone(t, lengths, api.ErrRange)
	}
}

func TestNewTooMany(t *testing.T) {
	for _, lengths := range [][]int{
		{1, 1, 1}, {1, 1, 15}, {15, 1, 1}, {1, 2, 2, 15}, {2, 2, 2, 2, 3}, {1, 0, 1, 0, 15},
		append(staircase(), 15), append(fixed(), 15), append(fixed(), 9), slices.Repeat([]int{1}, 320), slices.Repeat([]int{8}, 257),
	} {
		wantNone(t, lengths, api.ErrForm)
	}
}

func TestNewJustEnough(t *testing.T) {
	for _, lengths := range someLengths() {
		codeOf(t, lengths...)
	}
	for n := 1; n <= 8; n++ {
		all := slices.Repeat([]int{n}, 1<<n)
		if !codeOf(t, all...).Complete() {
			t.Errorf("all of length %d: not complete", n)
		}
		wantNone(t, append(all, 15), api.ErrForm)
	}
}

func TestCompleteAndSymbols(t *testing.T) {
	for _, c := range []struct {
		lengths  []int
		complete bool
		symbols  int
	}{
		{nil, false, 0}, {[]int{0, 0}, false, 0}, {[]int{1}, false, 1}, {[]int{0, 1, 0}, false, 1}, {[]int{1, 1}, true, 2},
		{[]int{1, 0, 1}, true, 2}, {[]int{2, 1, 2}, true, 3}, {[]int{2, 1, 3}, false, 3}, {[]int{2, 2, 2}, false, 3},
		{staircase(), true, 16}, {staircase()[:15], false, 15}, {fixed(), true, 288}, {fixed()[:287], false, 287},
		{slices.Repeat([]int{5}, 32), true, 32}, {slices.Repeat([]int{5}, 31), false, 31}, {slices.Repeat([]int{15}, 320), false, 320},
		{slices.Concat(slices.Repeat([]int{9}, 128), slices.Repeat([]int{8}, 192)), true, 320}, {make([]int, 320), false, 0},
	} {
		code := codeOf(t, c.lengths...)
		if code.Complete() != c.complete || code.Symbols() != c.symbols {
			t.Errorf("%v: %v, %d symbols", c.lengths, code.Complete(), code.Symbols())
		}
	}
}

// P4.2

func TestCodesTheExample(t *testing.T) {
	wantCodes(t, codeOf(t, 2, 1, 2), []string{"10", "0", "11"})
}

func TestCodes(t *testing.T) {
	for _, c := range []struct {
		lengths []int
		codes   []string
	}{
		{[]int{3, 3, 3, 3, 3, 2, 4, 4}, []string{"010", "011", "100", "101", "110", "00", "1110", "1111"}},
		{[]int{1}, []string{"0"}}, {[]int{0, 3}, []string{"", "000"}}, {[]int{15}, []string{"000000000000000"}},
		{[]int{1, 15}, []string{"0", "100000000000000"}}, {[]int{4, 2, 4, 0, 2}, []string{"1000", "00", "1001", "", "01"}},
		{[]int{15, 15, 1}, []string{"100000000000000", "100000000000001", "0"}},
	} {
		wantCodes(t, codeOf(t, c.lengths...), c.codes)
	}
	c := codeOf(t, fixed()...)
	for sym, code := range map[int]string{0: "00110000", 143: "10111111", 144: "110010000", 255: "111111111", 256: "0000000", 279: "0010111", 280: "11000000", 287: "11000111"} {
		if v, n, ok := c.Bits(sym); !ok || rowOf(v, n) != code {
			t.Errorf("code of %d: %s %v, want %s", sym, rowOf(v, n), ok, code)
		}
	}
}

func TestCodesAsTold(t *testing.T) {
	for _, lengths := range someLengths() {
		wantCodes(t, codeOf(t, lengths...), slowCodes(lengths))
	}
}

// Every list of up to five lengths of 0 to 4.
func TestCodesOfAllShortLists(t *testing.T) {
	var all func(ahead []int)
	all = func(ahead []int) {
		room, ok := huff.Room(ahead)
		if room != slowRoom(ahead) || !ok {
			t.Fatalf("Room(%v): %d %v", ahead, room, ok)
		}
		if room > 32768 {
			wantNone(t, ahead, api.ErrForm)
		} else {
			codes := slowCodes(ahead)
			c := codeOf(t, ahead...)
			wantCodes(t, c, codes)
			wantNextOfAll(t, c, codes, 5)
		}
		for n := 0; n <= 4 && len(ahead) < 5; n++ {
			all(append(slices.Clone(ahead), n))
		}
	}
	all(nil)
}

// wantNextOfAll asks Next of every row of up to so many bits.
func wantNextOfAll(t *testing.T, c *huff.Code, codes []string, most int) {
	t.Helper()
	for n := range most + 1 {
		for v := range uint32(1) << n {
			row := rowOf(v, n)
			r := readerOf(t, row)
			at := r.At()
			sym, e := slowNext(codes, row)
			behind := at
			if e == api.OK {
				behind += len(codes[sym])
			}
			wantNext(t, c, r, sym, e, behind)
		}
	}
}

func TestNextOfAllRows(t *testing.T) {
	for _, lengths := range [][]int{nil, {0, 0}, {1}, {0, 9}, {2, 1, 2}, {4, 2, 9}, {3, 3, 3, 3, 3, 2, 4, 4}, {1, 10, 9, 3}} {
		wantNextOfAll(t, codeOf(t, lengths...), slowCodes(lengths), 11)
	}
}

func TestBitsOfNoSymbol(t *testing.T) {
	for _, lengths := range someLengths() {
		c := codeOf(t, lengths...)
		for _, sym := range append(farNumbers, len(lengths)) {
			if v, n, ok := c.Bits(sym); v != 0 || n != 0 || ok {
				t.Errorf("Bits(%d): %b %d %v", sym, v, n, ok)
			}
		}
	}
}

func TestPut(t *testing.T) {
	for _, lengths := range someLengths() {
		c := codeOf(t, lengths...)
		got, want := bits.NewWriter(), bits.NewWriter()
		got.Put(5, 3)
		want.Put(5, 3)
		for sym, code := range slowCodes(lengths) {
			if ok := c.Put(got, sym); ok != (code != "") {
				t.Errorf("Put(%d) of %q: %v", sym, code, ok)
			}
			for _, x := range code {
				want.Put(uint32(x-'0'), 1)
			}
			if got.Len() != want.Len() {
				t.Fatalf("Put(%d) of %q: Len %d, want %d", sym, code, got.Len(), want.Len())
			}
		}
		if !slices.Equal(got.Out(), want.Out()) {
			t.Errorf("%v: % x, want % x", lengths, got.Out(), want.Out())
		}
	}
}

func TestPutNoSymbol(t *testing.T) {
	c := codeOf(t, 2, 0, 1, 3)
	w := bits.NewWriter()
	w.Put(1, 2)
	for _, sym := range append(farNumbers, 1, 4) {
		if c.Put(w, sym) || w.Len() != 2 {
			t.Errorf("Put(%d): Len %d", sym, w.Len())
		}
	}
	if !slices.Equal(w.Out(), []byte{1}) {
		t.Errorf("% x", w.Out())
	}
}

func TestNextInOrder(t *testing.T) {
	for _, lengths := range someLengths() {
		c := codeOf(t, lengths...)
		w := bits.NewWriter()
		w.Put(3, 3)
		for sym := range lengths {
			c.Put(w, sym)
		}
		end := w.Len()
		for _, behind := range []uint32{0, math.MaxUint32} {
			w.Put(behind, 32)
		}
		r := bits.NewReader(w.Out())
		r.Skip(3)
		for sym, n := range lengths {
			if n > 0 {
				wantNext(t, c, r, sym, api.OK, r.At()+n)
			}
		}
		if r.At() != end {
			t.Errorf("%v: at %d, want %d", lengths, r.At(), end)
		}
	}
}

// A code that is cut off anywhere is a beginning: the bits have ended too early.
func TestNextCutOff(t *testing.T) {
	for _, lengths := range someLengths() {
		c := codeOf(t, lengths...)
		for _, code := range slowCodes(lengths) {
			for n := range len(code) {
				r := readerOf(t, code[:n])
				wantNext(t, c, r, 0, api.ErrEnd, r.At())
				wantNext(t, c, r, 0, api.ErrEnd, r.At())
			}
		}
	}
}

func TestNextOfAnyBits(t *testing.T) {
	s := &numbers{777}
	for _, lengths := range someLengths() {
		c, codes := codeOf(t, lengths...), slowCodes(lengths)
		for range 60 {
			row := rowOf(uint32(s.below(1<<16)), s.below(17))
			r := readerOf(t, row)
			at := r.At()
			sym, e := slowNext(codes, row)
			if e == api.OK {
				wantNext(t, c, r, sym, e, at+len(codes[sym]))
				continue
			}
			wantNext(t, c, r, 0, e, at)
		}
	}
}

func TestNextWithoutCodes(t *testing.T) {
	for _, lengths := range [][]int{nil, {0}, make([]int, 320)} {
		c := codeOf(t, lengths...)
		wantNext(t, c, bits.NewReader(nil), 0, api.ErrEnd, 0)
		for _, row := range []string{"0", "1", "0000000", "000000000000000", "0000000000000000"} {
			r := readerOf(t, row)
			wantNext(t, c, r, 0, api.ErrForm, r.At())
			r.Skip(len(row))
			wantNext(t, c, r, 0, api.ErrEnd, r.At())
		}
	}
}

func TestNextOfOneCode(t *testing.T) {
	c := codeOf(t, 0, 15)
	noughts := strings.Repeat("0", 15)
	for n := range 15 {
		r := readerOf(t, noughts[:n])
		wantNext(t, c, r, 0, api.ErrEnd, r.At())
		r = readerOf(t, noughts[:n]+"1")
		wantNext(t, c, r, 0, api.ErrForm, r.At())
	}
	for _, behind := range []string{"", "0", "1", "11111111"} {
		r := readerOf(t, noughts+behind)
		wantNext(t, c, r, 1, api.OK, r.At()+15)
	}
}

// Where no code begins with what is left, that is told, however little is left.
func TestNextFormAheadOfEnd(t *testing.T) {
	c := codeOf(t, 2, 2, 15)
	r := readerOf(t, "11")
	wantNext(t, c, r, 0, api.ErrForm, r.At())
	r = readerOf(t, "1")
	wantNext(t, c, r, 0, api.ErrEnd, r.At())
	r = readerOf(t, "101")
	wantNext(t, c, r, 0, api.ErrForm, r.At())
	r = readerOf(t, "10")
	wantNext(t, c, r, 0, api.ErrEnd, r.At())
	r = readerOf(t, "10000000000000")
	wantNext(t, c, r, 0, api.ErrEnd, r.At())
	r = readerOf(t, "100000000000001")
	wantNext(t, c, r, 0, api.ErrForm, r.At())
	r = readerOf(t, "100000000000000")
	wantNext(t, c, r, 2, api.OK, r.At()+15)
}

// P4.3

func TestCost(t *testing.T) {
	c := codeOf(t, 3, 3, 3, 3, 3, 2, 4, 0, 4)
	for _, x := range []struct {
		counts []int
		want   int
	}{
		{nil, 0}, {[]int{}, 0}, {[]int{0}, 0}, {[]int{1}, 3}, {[]int{1, 0, 0, 2}, 9}, {[]int{1, 1, 1, 1, 1, 1, 1, 1, 1}, 25},
		{[]int{0, 0, 0, 0, 0, 0, 0, 9}, 0}, {[]int{0, 0, 0, 0, 0, 0, 0, 9, 5, 7, 7, 7}, 20},
		{[]int{1, 0, -5, 2, 1 << 41}, 9}, {[]int{1 << 40}, 3 << 40}, {[]int{1<<40 + 1}, 0}, {[]int{1<<40 + 1, 1}, 3}, {[]int{1<<40 - 1}, 3<<40 - 3},
		{[]int{-1, math.MinInt, math.MaxInt, math.MaxInt - 1, 1 << 62, 1}, 2},
	} {
		if n := c.Cost(x.counts); n != x.want {
			t.Errorf("Cost(%v): %d, want %d", x.counts, n, x.want)
		}
	}
}

func TestCostOfManySymbols(t *testing.T) {
	great := slices.Repeat([]int{1 << 40}, 400)
	c := codeOf(t, slices.Repeat([]int{15}, 320)...)
	if n := c.Cost(great); n != 320*15<<40 {
		t.Errorf("%d", n)
	}
	for _, lengths := range [][]int{nil, {}, {0, 0}} {
		if n := codeOf(t, lengths...).Cost(great); n != 0 {
			t.Errorf("%v: %d", lengths, n)
		}
	}
}

func TestCostIsWhatIsPut(t *testing.T) {
	s := &numbers{99}
	for _, lengths := range someLengths() {
		c := codeOf(t, lengths...)
		w := bits.NewWriter()
		counts := make([]int, s.below(len(lengths)+1))
		for sym := range counts {
			counts[sym] = s.below(5)
			for range counts[sym] {
				c.Put(w, sym)
			}
		}
		if n := c.Cost(counts); n != w.Len() {
			t.Errorf("Cost(%v) of %v: %d, want %d", counts, lengths, n, w.Len())
		}
	}
}

func TestNoCodeBeginsAnother(t *testing.T) {
	for _, lengths := range someLengths() {
		c := codeOf(t, lengths...)
		var codes []string
		for sym := range lengths {
			if v, n, ok := c.Bits(sym); ok {
				codes = append(codes, rowOf(v, n))
			}
		}
		slices.Sort(codes)
		for i, code := range codes {
			if i > 0 && strings.HasPrefix(code, codes[i-1]) {
				t.Errorf("%v: %s begins %s", lengths, codes[i-1], code)
			}
		}
		if len(codes) != c.Symbols() {
			t.Errorf("%v: %d codes, %d symbols", lengths, len(codes), c.Symbols())
		}
	}
}

func TestCallsLeaveTheLists(t *testing.T) {
	all := []int{7, 2, 1, 3, 0, 8, 9}
	kept := slices.Clone(all)
	lengths := all[1:5]
	huff.Room(lengths)
	c := codeOf(t, lengths...)
	c.Cost(lengths)
	huff.New(all[:6])
	huff.New([]int{1, 1, 1})
	if !slices.Equal(all, kept) {
		t.Errorf("%v, want %v", all, kept)
	}
}

func TestCodeKeepsNothing(t *testing.T) {
	lengths := []int{2, 1, 2}
	c, e := huff.New(lengths)
	if e != api.OK {
		t.Fatal(e)
	}
	copy(lengths, []int{0, 0, 1})
	wantCodes(t, c, []string{"10", "0", "11"})
	wantNext(t, c, readerOf(t, "11000000"), 2, api.OK, 2)
	if !c.Complete() || c.Symbols() != 3 || c.Cost([]int{1, 1, 1}) != 5 {
		t.Errorf("%v %d %d", c.Complete(), c.Symbols(), c.Cost([]int{1, 1, 1}))
	}
}

func TestCodesApart(t *testing.T) {
	a, b := codeOf(t, 2, 1, 2), codeOf(t, 1, 2, 2)
	again := codeOf(t, 2, 1, 2)
	for range 2 {
		wantCodes(t, a, []string{"10", "0", "11"})
		wantCodes(t, b, []string{"0", "10", "11"})
		wantCodes(t, again, []string{"10", "0", "11"})
		wantNext(t, a, readerOf(t, "10000000"), 0, api.OK, 2)
		wantNext(t, b, readerOf(t, "10000000"), 1, api.OK, 2)
	}
}

// Many symbols one after the other, some of each length.
func TestThereAndBack(t *testing.T) {
	s := &numbers{4242}
	for _, lengths := range someLengths() {
		c := codeOf(t, lengths...)
		if c.Symbols() == 0 {
			continue
		}
		w := bits.NewWriter()
		var put []int
		for range 500 {
			if sym := s.below(len(lengths)); c.Put(w, sym) {
				put = append(put, sym)
			}
		}
		r := bits.NewReader(w.Out())
		for _, sym := range put {
			wantNext(t, c, r, sym, api.OK, r.At()+lengths[sym])
		}
		if r.At() != w.Len() {
			t.Errorf("at %d, want %d", r.At(), w.Len())
		}
	}
}
