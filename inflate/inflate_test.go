package inflate_test

import (
	"bytes"
	"compress/flate"
	"math"
	"runtime"
	"slices"
	"strings"
	"testing"

	"etui/api"
	"etui/inflate"
	"etui/lens"
)

// farNumbers are no symbols; as limits some of them are great ones.
var farNumbers = []int{-1, -2, -257, -1 << 31, -1 << 32, math.MinInt, math.MinInt + 1, 1 << 31, 1 << 32, 1 << 62, math.MaxInt - 1, math.MaxInt}

// wantSame asks whether Inflate answers what the chapter tells, step by step.
func wantSame(t *testing.T, b []byte, limit int) {
	t.Helper()
	want, wantErrno := slowInflate(b, limit)
	x, e := inflate.Inflate(b, limit)
	if e != wantErrno || !bytes.Equal(x.Out, want.Out) || x.Used != want.Used || x.Steps != want.Steps || x.Blocks != want.Blocks {
		t.Fatalf("% x, limit %d:\n%v, errno %d, want\n%v, errno %d", b, limit, x, e, want, wantErrno)
	}
}

// wantOut asks for bytes, and how they are told.
func wantOut(t *testing.T, b []byte, limit int, out string, used, steps, blocks int) {
	t.Helper()
	x, e := inflate.Inflate(b, limit)
	if e != api.OK || string(x.Out) != out || x.Used != used || x.Steps != steps || x.Blocks != blocks {
		t.Errorf("% x, limit %d: %q %d %d %d, errno %d, want %q %d %d %d", b, limit, x.Out, x.Used, x.Steps, x.Blocks, e, out, used, steps, blocks)
	}
}

// wantFault asks for an error, and for nothing beside it.
func wantFault(t *testing.T, b []byte, limit int, want api.Errno) {
	t.Helper()
	x, e := inflate.Inflate(b, limit)
	if e != want || len(x.Out) != 0 || x.Used != 0 || x.Steps != 0 || x.Blocks != 0 {
		t.Errorf("% x, limit %d: %v, errno %d, want errno %d", b, limit, x, e, want)
	}
}

// someTexts: bytes of all kinds.
func someTexts() [][]byte {
	s := &numbers{4711}
	mixed := make([]byte, 70000)
	few := make([]byte, 50000)
	for i := range mixed {
		mixed[i] = byte(s.below(256))
	}
	for i := range few {
		few[i] = "abcd"[s.below(1+s.below(4))]
	}
	words := strings.Repeat("the first of these, and the other one; ", 900)
	return [][]byte{nil, {0}, []byte("a"), []byte("abcabcabcabc"), make([]byte, 100000), mixed, few, []byte(words), slices.Concat(mixed[:40000], mixed[8000:40000])}
}

// somePacked: packed bytes without a fault, most of them short.
func somePacked() [][]byte {
	list := [][]byte{
		{75, 4, 0}, {3, 0}, newPacker().stored(1).Out(), newPacker().stored(0, 'x').stored(1, 'y', 'z').Out(),
		newPacker().fixed(0, bytesAnd("abc", step{sym: 257, far: 2}, step{sym: 265, extra: 1, far: 4, farExtra: 1}, end)...).stored(1, 'd').Out(),
		newPacker().fixed(0, end).fixed(0, end).fixed(0, bytesAnd("\x00\xff", end)...).fixed(1, end).Out(),
		newPacker().told(1, lengthsOf(257, 256, 1), []int{0}, end).Out(),
		newPacker().told(1, lengthsOf(258, 'a', 1, 256, 2, 257, 2), []int{1}, bytesAnd("a", step{sym: 257}, end)...).Out(),
	}
	s := &numbers{112233}
	for range 12 {
		p := newPacker()
		have := 0
		for range 1 + s.below(3) {
			have = s.told(p, 0, have)
		}
		list = append(list, p.stored(s.below(2), 'q', 'r').fixed(1, end).Out())
	}
	return list
}

// packedByFlate: packed bytes of others.
func packedByFlate(t *testing.T, b []byte, level int, flush bool) []byte {
	t.Helper()
	var out bytes.Buffer
	w, err := flate.NewWriter(&out, level)
	if err != nil {
		t.Fatal(err)
	}
	half := len(b) / 2
	w.Write(b[:half])
	if flush {
		w.Flush()
	}
	w.Write(b[half:])
	w.Close()
	return out.Bytes()
}

// P6.1

func TestTheExample(t *testing.T) {
	wantOut(t, []byte{75, 4, 0}, 1, "a", 3, 2, 1)
}

func TestPackedByOthers(t *testing.T) {
	for _, b := range someTexts() {
		for level := flate.HuffmanOnly; level <= flate.BestCompression; level++ {
			for _, flush := range []bool{false, true} {
				packed := packedByFlate(t, b, level, flush)
				x, e := inflate.Inflate(packed, len(b))
				if e != api.OK || !bytes.Equal(x.Out, b) || x.Used != len(packed) || x.Steps > 8*len(packed) || x.Blocks < 1 {
					t.Errorf("%d bytes, level %d: %d bytes, %d of %d used, errno %d", len(b), level, len(x.Out), x.Used, len(packed), e)
				}
				wantFault(t, packed[:len(packed)-1], len(b), api.ErrEnd)
				if len(b) > 0 {
					wantFault(t, packed, len(b)-1, api.ErrLimit)
				}
			}
		}
	}
}

func TestStored(t *testing.T) {
	great := bytes.Repeat([]byte("0123456789abcdef"), 4096)[:65535]
	wantOut(t, []byte{1, 0, 0, 255, 255}, 0, "", 5, 0, 1)
	wantOut(t, newPacker().stored(1, great...).Out(), 65535, string(great), 65540, 65535, 1)
	wantOut(t, newPacker().stored(0, great...).stored(0).stored(1, 'x').Out(), 65536, string(great)+"x", 65551, 65536, 3)
	// What is between a block's beginning and the aligned place doesn't matter.
	wantOut(t, []byte{0xf9, 2, 0, 253, 255, 'x', 'y'}, 2, "xy", 7, 2, 1)
	for n := range 9 {
		p := shifted(n).stored(1, 'x', 'y')
		text := strings.Repeat("\xff", n)
		wantOut(t, p.Out(), n+2, text+"xy", p.Len()/8, n+3, 2)
	}
}

func TestStoredFaults(t *testing.T) {
	for n := range 6 {
		wantFault(t, []byte{1, 2, 0, 253, 255, 'x'}[:n], 9, api.ErrEnd)
	}
	for limit, want := range []api.Errno{api.ErrLimit, api.ErrLimit, api.OK, api.OK} {
		wantFault(t, []byte{1, 2, 0, 253, 255, 'x'}, limit, api.ErrEnd)
		wantFault(t, []byte{1, 2, 0, 252, 255}, limit, api.ErrForm)
		wantFault(t, []byte{1, 2, 0, 253, 254, 'x', 'y'}, limit, api.ErrForm)
		if _, e := inflate.Inflate([]byte{1, 2, 0, 253, 255, 'x', 'y'}, limit); e != want {
			t.Errorf("limit %d: errno %d", limit, e)
		}
	}
	two := newPacker().stored(0, 'x', 'y', 'z').stored(1, 'z').Out()
	wantFault(t, two, 3, api.ErrLimit)
	wantFault(t, two[:len(two)-1], 3, api.ErrEnd)
	wantFault(t, two[:len(two)-1], 2, api.ErrLimit)
	wantOut(t, two, 4, "xyzz", 14, 4, 2)
}

func TestFixedBytes(t *testing.T) {
	var all []byte
	for x := range 256 {
		one := []byte{byte(x)}
		p := newPacker().fixed(1, bytesAnd(string(one), end)...)
		wantOut(t, p.Out(), 1, string(one), (p.Len()+7)/8, 2, 1)
		all = append(all, byte(x))
	}
	p := newPacker().fixed(1, bytesAnd(string(all), end)...)
	wantOut(t, p.Out(), 256, string(all), (p.Len()+7)/8, 257, 1)
}

// Each length, with each of its bits more.
func TestLengthsThatAreRead(t *testing.T) {
	bases, extras := slowLengths()
	for i, base := range bases {
		for extra := range 1 << extras[i] {
			p := newPacker().fixed(1, bytesAnd("xy", step{sym: 257 + i, extra: extra, far: 1}, step{sym: 'z'}, end)...)
			n := base + extra
			wantOut(t, p.Out(), n+3, strings.Repeat("xy", 131)[:n+2]+"z", (p.Len()+7)/8, 5, 1)
			wantFault(t, p.Out(), n+1, api.ErrLimit)
			wantFault(t, p.Out(), n+2, api.ErrLimit)
		}
	}
}

// Each distance, with the least and the greatest of its bits more, reaching back
// into another block; one byte farther there is nothing.
func TestDistancesThatAreRead(t *testing.T) {
	s := &numbers{99}
	bases, extras := slowDistances()
	for sym, base := range bases {
		most := 1<<extras[sym] - 1
		for _, extra := range []int{0, most / 2, most} {
			ahead := make([]byte, base+extra)
			for i := range ahead {
				ahead[i] = byte(s.below(256))
			}
			back := []step{{sym: 257, far: sym, farExtra: extra}, end}
			p := newPacker().stored(0, ahead[:len(ahead)/2]...).stored(0, ahead[len(ahead)/2:]...).fixed(1, back...)
			again := slices.Repeat(ahead, 4)[:len(ahead)+3]
			wantOut(t, p.Out(), len(again), string(again), (p.Len()+7)/8, len(ahead)+2, 3)
			wantFault(t, newPacker().stored(0, ahead[1:]...).fixed(1, back...).Out(), len(again), api.ErrForm)
		}
	}
	if base, extra := bases[29], extras[29]; base+1<<extra-1 != api.MaxWindow {
		t.Errorf("the farthest: %d", base+1<<extra-1)
	}
}

func TestTold(t *testing.T) {
	first := lengthsOf(258, 'a', 1, 256, 2, 257, 2)
	for _, c := range []struct {
		first, other []int
		list         []step
		out          string
	}{
		{lengthsOf(257, 256, 1), []int{0}, []step{end}, ""},
		{lengthsOf(286, 256, 1), lengthsOf(30), []step{end}, ""},
		{lengthsOf(257, 'a', 1, 256, 1), []int{0}, bytesAnd("aaa", end), "aaa"},
		{first, []int{1}, bytesAnd("aa", step{sym: 257}, end), "aaaaa"},
		{first, []int{0, 1}, bytesAnd("aa", step{sym: 257, far: 1}, end), "aaaaa"},
		{first, []int{1, 1}, bytesAnd("aa", step{sym: 257, far: 1}, end), "aaaaa"},
		{first, lengthsOf(30, 29, 1), bytesAnd("aa", end), "aa"},
		{lengthsOf(286, 'x', 2, 'y', 2, 256, 2, 285, 2), lengthsOf(30, 1, 1, 29, 1), bytesAnd("xy", step{sym: 285, far: 1}, end), strings.Repeat("xy", 130)},
		{lengthsOf(286, 1, 1, 2, 2, 3, 3, 4, 4, 5, 5, 6, 6, 7, 7, 8, 8, 9, 9, 10, 10, 11, 11, 12, 12, 13, 13, 14, 14, 255, 15, 256, 15), []int{0}, bytesAnd("\x01\x0e\xff", end), "\x01\x0e\xff"},
		// The row goes on from one code's lengths to the other one's.
		{lengthsOf(257, 'a', 1, 256, 1), []int{1, 1}, bytesAnd("a", end), "a"},
	} {
		p := newPacker().told(1, c.first, c.other, c.list...)
		wantOut(t, p.Out(), len(c.out), c.out, (p.Len()+7)/8, len(c.list), 1)
		wantSame(t, p.Out(), len(c.out))
	}
}

func TestToldOfAnyCodes(t *testing.T) {
	s := &numbers{2026}
	for range 300 {
		p := newPacker()
		have := 0
		for range s.below(3) {
			have = s.told(p, 0, have)
		}
		have = s.told(p, 1, have)
		wantSame(t, p.Out(), have)
		wantSame(t, p.Out(), have-1)
		if x, e := inflate.Inflate(p.Out(), have); e != api.OK || len(x.Out) != have {
			t.Errorf("%d bytes, errno %d, want %d", len(x.Out), e, have)
		}
	}
}

// head: the beginning of a told block, with noughts up to a whole byte.
func head(l, d int, own []int) []byte {
	return newPacker().toldHead(1, l, d, own).Out()
}

func TestKindNone(t *testing.T) {
	for _, b := range [][]byte{{6}, {7}, {0xff}, {7, 0, 0, 255, 255}} {
		wantFault(t, b, 9, api.ErrForm)
	}
	p := newPacker().stored(0, 'x')
	p.kind(1, 3)
	wantFault(t, p.Out(), 9, api.ErrForm)
	wantFault(t, nil, 9, api.ErrEnd)
	wantFault(t, newPacker().stored(0, 'x').Out(), 9, api.ErrEnd)
	// One bit is left, or two, and then none: the kind isn't there.
	for n := range 3 {
		p := shifted(4 + n)
		at := p.Len()
		p.kind(1, 3)
		if left := (at+7)/8*8 - at; left > 2 {
			t.Fatalf("%d bits left", left)
		}
		wantFault(t, p.Out()[:(at+7)/8], 9, api.ErrEnd)
		wantFault(t, p.Out(), 9, api.ErrForm)
	}
}

func TestToldHeadFaults(t *testing.T) {
	one := lengthsOf(19, 18, 1)
	for _, c := range [][2]int{{30, 0}, {31, 0}, {0, 30}, {0, 31}, {30, 30}, {29, 31}} {
		b := head(c[0], c[1], one)
		wantFault(t, b, 9, api.ErrForm)
		wantFault(t, b[:3], 9, api.ErrForm)
		wantFault(t, b[:2], 9, api.ErrEnd)
		wantFault(t, b[:1], 9, api.ErrEnd)
	}
	for _, own := range [][]int{
		make([]int, 19), one, lengthsOf(19, 0, 1), lengthsOf(19, 16, 2, 17, 2, 18, 2), lengthsOf(19, 16, 7, 1, 7), slices.Repeat([]int{5}, 19),
		lengthsOf(19, 0, 1, 17, 1, 18, 1), lengthsOf(19, 0, 1, 17, 1, 15, 7), slices.Repeat([]int{1}, 19), slices.Repeat([]int{4}, 19),
	} {
		b := head(29, 29, own)
		wantFault(t, b, 9, api.ErrForm)
		wantFault(t, b[:len(b)-1], 9, api.ErrEnd)
		wantFault(t, append(b, 0, 0, 0, 0), 9, api.ErrForm)
	}
	for _, own := range [][]int{lengthsOf(19, 0, 1, 18, 1), lengthsOf(19, 17, 1, 18, 1), ownOf()} {
		b := head(0, 0, own)
		wantFault(t, b, 9, api.ErrEnd)
		wantSame(t, b, 9)
	}
}

// ownOf: lengths of a code of all items.
func ownOf() []int { return slices.Concat(slices.Repeat([]int{4}, 13), slices.Repeat([]int{5}, 6)) }

// toldItems writes the beginning of a told block of 257 + l lengths, and 1 + d,
// with these items.
func toldItems(p packer, l, d int, list ...lens.Item) packer {
	return p.toldHead(1, l, d, ownOf()).items(ownOf(), list...)
}

func TestItemsFirstAgain(t *testing.T) {
	for extra := range 4 {
		for n := range 8 {
			p := toldItems(shifted(n), 29, 29, lens.Item{Sym: 16, Extra: extra})
			wantSame(t, p.Out(), 9)
			wantFault(t, p.Out(), 9, api.ErrForm)
			wantFault(t, p.Out()[:(p.Len()-1)/8], 9, api.ErrEnd)
		}
	}
}

func TestItemsForMore(t *testing.T) {
	many := func(n int) lens.Item { return lens.Item{Sym: 18, Extra: n - 11} }
	ahead := []lens.Item{many(138), many(118), {Sym: 1}} // 257 of them, and 256 has one
	for _, c := range []struct {
		d    int
		list []lens.Item
		want api.Errno
	}{
		{0, []lens.Item{{Sym: 0}}, api.OK},
		{0, []lens.Item{{Sym: 1}}, api.OK},
		{0, []lens.Item{{Sym: 16}}, api.ErrForm},
		{1, []lens.Item{{Sym: 16}}, api.ErrForm},
		{2, []lens.Item{{Sym: 16, Extra: 1}}, api.ErrForm},
		{2, []lens.Item{{Sym: 0}, {Sym: 16}}, api.ErrForm},
		{3, []lens.Item{{Sym: 0}, {Sym: 16}}, api.OK}, // noughts again
		{0, []lens.Item{{Sym: 17}}, api.ErrForm},
		{1, []lens.Item{{Sym: 17}}, api.ErrForm},
		{2, []lens.Item{{Sym: 17}}, api.OK},
		{2, []lens.Item{{Sym: 17, Extra: 1}}, api.ErrForm},
		{9, []lens.Item{{Sym: 17, Extra: 7}}, api.OK},
		{8, []lens.Item{{Sym: 17, Extra: 7}}, api.ErrForm},
		{10, []lens.Item{{Sym: 18}}, api.OK},
		{9, []lens.Item{{Sym: 18}}, api.ErrForm},
		{29, []lens.Item{many(30)}, api.OK},
		{29, []lens.Item{many(31)}, api.ErrForm},
		{29, []lens.Item{many(138)}, api.ErrForm},
	} {
		p := toldItems(newPacker(), 0, c.d, append(slices.Clone(ahead), c.list...)...)
		if c.want != api.OK {
			wantFault(t, p.Out(), 9, c.want)
		}
		wantSame(t, p.Out(), 9)
		p.numbers(1, 0) // the symbol 256
		if c.want == api.OK {
			wantOut(t, p.Out(), 9, "", (p.Len()+7)/8, 1, 1)
		}
		wantSame(t, append(p.Out(), 0), 9)
	}
}

// Codes that a block may not have; that is asked when all lengths are told.
func TestCodesThatAreNone(t *testing.T) {
	ends := lengthsOf(257, 'a', 1, 256, 1)
	for i, c := range []struct{ first, other []int }{
		{lengthsOf(257), []int{0}},                          // no symbols
		{lengthsOf(257, 'a', 1, 'b', 1), []int{0}},          // none for 256
		{lengthsOf(258, 'a', 1, 257, 1), []int{0}},          //
		{lengthsOf(257, 256, 2), []int{0}},                  // one symbol, too long
		{lengthsOf(257, 256, 15), []int{0}},                 //
		{lengthsOf(257, 'a', 2, 256, 1), []int{0}},          // not complete
		{lengthsOf(257, 'a', 2, 'b', 2, 256, 2), []int{0}},  //
		{lengthsOf(257, 'a', 1, 'b', 1, 256, 1), []int{0}},  // too many
		{lengthsOf(257, 'a', 1, 'b', 1, 256, 15), []int{0}}, //
		{ends, []int{2}},                                              // one symbol, too long
		{ends, []int{0, 15}},                                          //
		{ends, []int{1, 2}},                                           // not complete
		{ends, []int{2, 2, 2}},                                        //
		{ends, slices.Repeat([]int{5}, 30)},                           //
		{ends, []int{1, 1, 1}},                                        // too many
		{ends, []int{1, 1, 0, 15}},                                    //
		{ends, slices.Repeat([]int{4}, 17)},                           //
		{lengthsOf(257, 'a', 1, 256, 2), []int{1, 1}},                 // not complete, the other one is
		{slices.Repeat([]int{9}, 286), slices.Repeat([]int{5}, 30)},   //
		{slices.Repeat([]int{1}, 286), slices.Repeat([]int{1}, 30)},   //
		{slices.Repeat([]int{15}, 286), slices.Repeat([]int{15}, 30)}, //
	} {
		for _, behind := range [][]byte{nil, {0}, {0xff, 0xff, 0xff}} {
			p := newPacker().told(1, c.first, c.other)
			last := (p.Len() - 1) / 8
			p.Raw(behind)
			wantFault(t, p.Out(), 9, api.ErrForm)
			wantFault(t, p.Out()[:last], 9, api.ErrEnd)
			if t.Failed() {
				t.Fatal(i)
			}
		}
	}
}

// Bits with which no code begins, and where bits are missing.
func TestNoCodeBegins(t *testing.T) {
	p := newPacker().told(1, lengthsOf(257, 256, 1), []int{0})
	p.numbers(1, 1)
	wantFault(t, p.Out(), 9, api.ErrForm)

	first := lengthsOf(258, 'a', 1, 256, 2, 257, 2)
	for _, other := range [][]int{{0}, {1}, {0, 1}, lengthsOf(30), lengthsOf(30, 29, 1)} {
		p := newPacker().told(1, first, other, step{sym: 'a'})
		p.numbers(2, 3) // the symbol 257
		missing := p.Len() % 8
		p.numbers(1, 1)
		wantFault(t, p.Out(), 9, api.ErrForm)
		wantFault(t, p.Out(), 0, api.ErrLimit)
		if missing == 0 {
			wantFault(t, p.Out()[:len(p.Out())-1], 9, api.ErrEnd)
		}
	}
}

// A code without symbols: where bits are left, none of its codes begins with
// them; where none are, they have ended.
func TestNoDistances(t *testing.T) {
	first := lengthsOf(258, 'a', 1, 256, 2, 257, 2)
	for n := range 8 {
		p := shifted(n).told(1, first, []int{0}, step{sym: 'a'})
		p.numbers(2, 3) // the symbol 257
		want := api.ErrForm
		if p.Len()%8 == 0 {
			want = api.ErrEnd
		}
		wantFault(t, p.Out(), 99, want)
		wantFault(t, append(p.Out(), 0), 99, api.ErrForm)
	}
}

func TestSymbolsThatAreNone(t *testing.T) {
	for _, sym := range []int{286, 287} {
		for n := range 8 {
			p := shifted(n).fixed(1, bytesAnd("abcd", step{sym: sym})...)
			wantFault(t, p.Out(), 99, api.ErrForm)
			wantFault(t, p.Out(), n+4, api.ErrForm)
			wantFault(t, p.Out()[:(p.Len()-1)/8], 99, api.ErrEnd)
		}
	}
	for _, far := range []int{30, 31} {
		for n := range 8 {
			p := shifted(n).fixed(1, bytesAnd("abcd", step{sym: 284, extra: 31, far: far})...)
			wantFault(t, p.Out(), 99, api.ErrForm)
			wantFault(t, p.Out(), n+4, api.ErrForm)
			wantFault(t, p.Out()[:(p.Len()-1)/8], 99, api.ErrEnd)
		}
	}
}

// What is farther back than there are bytes is told ahead of the limit.
func TestFartherThanThereAre(t *testing.T) {
	for _, limit := range []int{3, 4, 5, 6, 99, math.MaxInt} {
		wantFault(t, newPacker().fixed(1, bytesAnd("abc", step{sym: 257, far: 3}, end)...).Out(), limit, api.ErrForm)
		wantFault(t, newPacker().fixed(1, bytesAnd("abc", step{sym: 257, far: 29, farExtra: 8191}, end)...).Out(), limit, api.ErrForm)
	}
	b := newPacker().fixed(1, bytesAnd("abc", step{sym: 257, far: 2}, end)...).Out()
	for limit := range 6 {
		wantFault(t, b, limit, api.ErrLimit)
	}
	wantOut(t, b, 6, "abcabc", len(b), 5, 1)
	wantFault(t, newPacker().fixed(1, step{sym: 257}, end).Out(), 99, api.ErrForm)
	wantFault(t, newPacker().fixed(1, step{sym: 257}, end).Out(), 0, api.ErrForm)
}

func TestLimits(t *testing.T) {
	for _, b := range somePacked() {
		x, e := inflate.Inflate(b, math.MaxInt)
		if e != api.OK {
			t.Fatalf("% x: errno %d", b, e)
		}
		n := len(x.Out)
		for _, limit := range append([]int{n, n + 1, n - 1, n / 2, n / 3, 1, 0}, farNumbers...) {
			if max(limit, 0) < n {
				wantFault(t, b, limit, api.ErrLimit)
			} else {
				wantOut(t, b, limit, string(x.Out), x.Used, x.Steps, x.Blocks)
			}
			wantSame(t, b, limit)
		}
	}
}

// The limit is asked when a byte is told, not later: what is behind isn't read.
func TestLimitAheadOfTheRest(t *testing.T) {
	p := newPacker().fixed(1, bytesAnd("abc")...)
	p.Raw([]byte{0xff})
	b := p.Out()
	wantFault(t, b, 3, api.ErrForm)
	wantFault(t, b, 2, api.ErrLimit)
	wantFault(t, newPacker().fixed(0, bytesAnd("abcd", step{sym: 264, far: 3}, step{sym: 286})...).Out(), 13, api.ErrLimit)
	wantFault(t, newPacker().fixed(0, bytesAnd("abcd", step{sym: 264, far: 3}, step{sym: 286})...).Out(), 14, api.ErrForm)
}

func TestBehindTheLastBlock(t *testing.T) {
	for _, b := range somePacked() {
		x, e := inflate.Inflate(b, math.MaxInt)
		if e != api.OK {
			t.Fatalf("% x: errno %d", b, e)
		}
		for _, behind := range [][]byte{{0}, {7, 7, 7}, {75, 4, 0}, bytes.Repeat([]byte{255}, 300)} {
			wantOut(t, append(slices.Clone(b), behind...), len(x.Out), string(x.Out), x.Used, x.Steps, x.Blocks)
		}
	}
	// The bits that are left in the last byte don't matter either.
	for v := range 64 {
		wantOut(t, []byte{3, byte(v << 2)}, 0, "", 2, 1, 1)
	}
}

// Packed bytes that end anywhere, begun at any bit.
func TestCutOff(t *testing.T) {
	for _, b := range somePacked() {
		x, _ := inflate.Inflate(b, math.MaxInt)
		for n := range x.Used {
			wantFault(t, b[:n], math.MaxInt, api.ErrEnd)
		}
	}
	first := lengthsOf(286, 'a', 2, 'b', 2, 256, 2, 284, 3, 265, 3)
	for n := range 16 {
		p := shifted(n).told(0, first, lengthsOf(30, 0, 1, 7, 1), bytesAnd("abaabab", step{sym: 265, extra: 1}, step{sym: 284, extra: 7, far: 7, farExtra: 2}, end)...)
		p.fixed(1, step{sym: 284, extra: 31, far: 12, farExtra: 17}, end)
		b := p.Out()
		for cut := range b {
			wantFault(t, b[:cut], 9999, api.ErrEnd)
			wantSame(t, b[:cut], 200)
		}
		wantSame(t, b, 9999)
	}
}

func TestAnyShortBytes(t *testing.T) {
	wantSame(t, nil, 9)
	for a := range 256 {
		wantSame(t, []byte{byte(a)}, 9)
		for b := range 256 {
			wantSame(t, []byte{byte(a), byte(b)}, 1)
		}
	}
}

func TestAnyBytes(t *testing.T) {
	s := &numbers{31337}
	for range 20000 {
		b := make([]byte, 3+s.below(60))
		for i := range b {
			b[i] = byte(s.below(256))
		}
		wantSame(t, b, s.below(1+s.below(300)))
	}
}

// Packed bytes in which one bit is turned, and some are.
func TestTurnedBits(t *testing.T) {
	s := &numbers{616}
	for _, b := range somePacked() {
		x, _ := inflate.Inflate(b, math.MaxInt)
		for n := range min(len(b)*8, 600) {
			turned := slices.Clone(b)
			turned[n/8] ^= 1 << (n % 8)
			wantSame(t, turned, len(x.Out)+300)
			for range s.below(6) {
				turned[s.below(len(b))] ^= 1 << s.below(8)
			}
			wantSame(t, turned, len(x.Out)+s.below(30))
		}
	}
}

// P6.2

func TestLength(t *testing.T) {
	bases, extras := slowLengths()
	for i := range bases {
		if base, extra, ok := inflate.Length(257 + i); base != bases[i] || extra != extras[i] || !ok {
			t.Errorf("Length(%d): %d %d %v, want %d %d", 257+i, base, extra, ok, bases[i], extras[i])
		}
	}
	for _, sym := range append(farNumbers, 0, 1, 255, 256, 286, 287, 288) {
		if base, extra, ok := inflate.Length(sym); base != 0 || extra != 0 || ok {
			t.Errorf("Length(%d): %d %d %v", sym, base, extra, ok)
		}
	}
}

func TestDistance(t *testing.T) {
	bases, extras := slowDistances()
	if len(bases) != 30 {
		t.Fatal(len(bases))
	}
	for sym := range bases {
		base, extra, ok := inflate.Distance(sym)
		if base != bases[sym] || extra != extras[sym] || !ok {
			t.Errorf("Distance(%d): %d %d %v, want %d %d", sym, base, extra, ok, bases[sym], extras[sym])
		}
		if e := sym/2 - 1; sym >= 4 && (base != 1+(2+sym%2)<<e || extra != e) {
			t.Errorf("Distance(%d): %d %d", sym, base, extra)
		}
	}
	for _, sym := range append(farNumbers, 30, 31, 32, 257) {
		if base, extra, ok := inflate.Distance(sym); base != 0 || extra != 0 || ok {
			t.Errorf("Distance(%d): %d %d %v", sym, base, extra, ok)
		}
	}
}

func TestFixed(t *testing.T) {
	var want []int
	for i, n := range []int{144, 112, 24, 8} {
		want = append(want, slices.Repeat([]int{8 + []int{0, 1, -1, 0}[i]}, n)...)
	}
	for range 2 {
		first, other := inflate.Fixed()
		if len(want) != 288 || !slices.Equal(first, want) || !slices.Equal(other, slices.Repeat([]int{5}, 32)) {
			t.Fatalf("%v %v", first, other)
		}
		first, other = first[:cap(first)], other[:cap(other)]
		for i := range first {
			first[i] = 1
		}
		for i := range other {
			if other[i] == 1 {
				t.Fatal("one memory")
			}
			other[i] = 2
		}
	}
	wantOut(t, []byte{75, 4, 0}, 1, "a", 3, 2, 1)
}

// P6.3

func TestStepsAndLimit(t *testing.T) {
	s := &numbers{808}
	// A symbol of one bit, all others in the last bytes.
	p := newPacker().told(1, lengthsOf(257, 'a', 1, 256, 1), []int{0}, bytesAnd(strings.Repeat("a", 9000), end)...)
	list := append(somePacked(), p.Out(), newPacker().stored(1, make([]byte, 5000)...).Out(), packedByFlate(t, make([]byte, 1<<20), 9, false))
	for _, b := range list {
		for range 30 {
			limit := s.below(1 + s.below(12000))
			x, e := inflate.Inflate(b, limit)
			if x.Steps > 8*len(b) || len(x.Out) > limit || e != api.OK && e != api.ErrLimit {
				t.Errorf("%d bytes, limit %d: %d steps, %d bytes, errno %d", len(b), limit, x.Steps, len(x.Out), e)
			}
		}
	}
	if x, e := inflate.Inflate(p.Out(), 9000); e != api.OK || x.Steps != 9001 {
		t.Errorf("%d steps, errno %d", x.Steps, e)
	}
}

// Bytes that tell far more of them than the limit take no more than the limit lets.
func TestGreatOutWithinTheLimit(t *testing.T) {
	b := packedByFlate(t, make([]byte, 1<<24), 9, false)
	wantFault(t, b, 1000, api.ErrLimit)
	var ahead, behind runtime.MemStats
	runtime.ReadMemStats(&ahead)
	inflate.Inflate(b, 1000)
	runtime.ReadMemStats(&behind)
	n := behind.TotalAlloc - ahead.TotalAlloc
	if most := uint64(len(b)) + 200000; n > most {
		t.Errorf("%d bytes of memory, want at most %d", n, most)
	}
	if x, e := inflate.Inflate(b, 1<<24); e != api.OK || !bytes.Equal(x.Out, make([]byte, 1<<24)) {
		t.Errorf("%d bytes, errno %d", len(x.Out), e)
	}
}

func TestInflateLeavesTheBytes(t *testing.T) {
	for _, b := range somePacked() {
		all := slices.Concat([]byte{9, 9}, b, []byte{8, 8})
		kept := slices.Clone(all)
		part := all[2 : 2+len(b)]
		inflate.Inflate(part, math.MaxInt)
		inflate.Inflate(part, 1)
		inflate.Inflate(part[:len(b)/2], 9)
		if !bytes.Equal(all, kept) {
			t.Errorf("% x, want % x", all, kept)
		}
	}
}

// spoil writes over a list, and behind its length.
func spoil(list []byte) {
	list = list[:cap(list)]
	for i := range list {
		list[i] = 0xee
	}
}

func TestAnswersAreNew(t *testing.T) {
	for _, b := range somePacked() {
		given := slices.Clone(b)
		x, e := inflate.Inflate(given, math.MaxInt)
		again, _ := inflate.Inflate(given, math.MaxInt)
		out := string(x.Out)
		spoil(again.Out)
		if e != api.OK || string(x.Out) != out || !bytes.Equal(given, b) {
			t.Fatalf("% x: %q, errno %d", b, x.Out, e)
		}
		wantOut(t, given, math.MaxInt, out, x.Used, x.Steps, x.Blocks)
		spoil(given)
		if string(x.Out) != out {
			t.Errorf("% x: %q, want %q", b, x.Out, out)
		}
	}
}
