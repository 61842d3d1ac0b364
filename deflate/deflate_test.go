package deflate_test

import (
	"bytes"
	"compress/flate"
	"io"
	"math"
	"slices"
	"strings"
	"testing"

	"etui/api"
	"etui/deflate"
	"etui/inflate"
)

// farNumbers are no levels, and no places; some of them are great ones.
var farNumbers = []int{-1, -2, -65535, -1 << 31, -1 << 32, math.MinInt, math.MinInt + 1, 1 << 31, 1 << 32, 1 << 62, math.MaxInt - 1, math.MaxInt}

// levels are all levels, and others.
var levels = append([]int{0, 1, 2, 3, 4, 5, 6, 7, 8, 9, 10, 11, 100}, farNumbers...)

// numbers are numbers in no order, the same ones each time.
type numbers struct{ x uint32 }

func (s *numbers) below(n int) int {
	s.x = s.x*1664525 + 1013904223
	return int(s.x>>8) % n
}

// anyBytes: n bytes, each one of so many.
func (s *numbers) anyBytes(n, kinds int) []byte {
	b := make([]byte, n)
	for i := range b {
		b[i] = byte(s.below(kinds))
	}
	return b
}

// uneven: n bytes, each one about as often as all those above it.
func (s *numbers) uneven(n int) []byte {
	b := make([]byte, n)
	for i := range b {
		for b[i] < 200 && s.below(2) == 1 {
			b[i]++
		}
	}
	return b
}

// unlike: n bytes below 16 of which no four in a row stand twice, up to 16^4: row by
// row all words of one, two or four letters that aren't a later part of themselves.
func unlike(n int) []byte {
	var out []byte
	word := make([]byte, 5)
	var grow func(t, p int)
	grow = func(t, p int) {
		if t > 4 {
			if 4%p == 0 {
				out = append(out, word[1:p+1]...)
			}
			return
		}
		word[t] = word[t-p]
		grow(t+1, p)
		for c := word[t-p] + 1; c < 16; c++ {
			word[t] = c
			grow(t+1, t)
		}
	}
	grow(1, 1)
	return out[:n]
}

// someTexts: bytes of all kinds.
func someTexts() [][]byte {
	s := &numbers{97531}
	words := strings.Repeat("the first of these, and the other one; ", 1500)
	list := [][]byte{
		nil, {}, {0}, {255}, []byte("a"), []byte("aa"), []byte("aaaa"), []byte("abcabcabcabc"), []byte("hello, hello, hello"), []byte(words),
		make([]byte, 258), make([]byte, 259), make([]byte, 100000), s.anyBytes(70000, 256), s.anyBytes(20000, 2), s.anyBytes(40000, 20), s.uneven(50000),
		unlike(65536), slices.Concat(s.anyBytes(40000, 256), []byte(words), s.anyBytes(40000, 256)), slices.Concat(unlike(40000), unlike(40000)),
	}
	for range 40 {
		list = append(list, s.anyBytes(s.below(900), 1+s.below(256)))
	}
	return list
}

// wantPacked asks whether packed bytes tell bytes, whole, to this project's reader,
// to the library's, and to one that answers where the blocks begin.
func wantPacked(t *testing.T, p, b []byte) []begun {
	t.Helper()
	x, e := inflate.Inflate(p, len(b))
	if e != api.OK || !bytes.Equal(x.Out, b) || x.Used != len(p) {
		t.Fatalf("%d bytes as %d: errno %d, %d bytes, %d used", len(b), len(p), e, len(x.Out), x.Used)
	}
	behind := bytes.NewReader(p)
	out, err := io.ReadAll(flate.NewReader(behind))
	if err != nil || !bytes.Equal(out, b) || behind.Len() > 0 {
		t.Fatalf("%d bytes as %d: %v, %d bytes, %d left", len(b), len(p), err, len(out), behind.Len())
	}
	list, out := blocksOf(p)
	if !bytes.Equal(out, b) || len(list) != x.Blocks {
		t.Fatalf("%d bytes as %d: other bytes in %d blocks, want %d", len(b), len(p), len(list), x.Blocks)
	}
	return list
}

// wantDeflated asks whether Deflate answers what the chapter tells, and answers that.
func wantDeflated(t *testing.T, b []byte, level int) []byte {
	t.Helper()
	p := deflate.Deflate(b, level)
	wantPacked(t, p, b)
	if len(p) > deflate.Bound(len(b)) {
		t.Fatalf("%d bytes, level %d: %d bytes", len(b), level, len(p))
	}
	return p
}

// within: how many unlike cuts are within n bytes.
func within(n int, cuts []int) map[int]bool {
	places := map[int]bool{}
	for _, cut := range cuts {
		if cut > 0 && cut < n {
			places[cut] = true
		}
	}
	return places
}

// wantBlocks asks whether Blocks answers what the chapter tells.
func wantBlocks(t *testing.T, b []byte, level int, cuts ...int) {
	t.Helper()
	list := wantPacked(t, deflate.Blocks(b, level, cuts...), b)
	places := within(len(b), cuts)
	if len(list) < len(places)+1 {
		t.Fatalf("%d bytes, level %d, %d cuts: %d blocks", len(b), level, len(places), len(list))
	}
	for _, x := range list {
		delete(places, x.at)
	}
	if len(places) > 0 {
		t.Fatalf("%d bytes, level %d: no block begins at %v", len(b), level, places)
	}
}

// P8.1

func TestDeflateTellsTheBytes(t *testing.T) {
	for _, b := range someTexts() {
		for level := -1; level <= 10; level++ {
			wantDeflated(t, b, level)
		}
	}
}

// All texts of up to eight bytes of two kinds, and of up to five of four.
func TestDeflateOfAllShortTexts(t *testing.T) {
	var all func(ahead []byte, kinds, most int)
	all = func(ahead []byte, kinds, most int) {
		for _, level := range []int{0, 1, 6, 9} {
			wantDeflated(t, ahead, level)
		}
		for c := 0; c < kinds && len(ahead) < most; c++ {
			all(append(slices.Clone(ahead), byte(100+c*40)), kinds, most)
		}
	}
	all(nil, 2, 8)
	all(nil, 4, 5)
}

func TestDeflateAtEachLevel(t *testing.T) {
	s := &numbers{31}
	for _, b := range [][]byte{nil, []byte("abcabcabc"), make([]byte, 600), s.anyBytes(3000, 3), s.uneven(3000), s.anyBytes(500, 256), unlike(500)} {
		for _, level := range levels {
			p := wantDeflated(t, b, level)
			if nearer := deflate.Deflate(b, min(max(level, 0), 9)); !bytes.Equal(p, nearer) {
				t.Errorf("%d bytes, level %d: not that of the nearer one", len(b), level)
			}
			if level <= 0 && !bytes.Equal(p, deflate.Stored(b)) {
				t.Errorf("%d bytes, level %d: not stored", len(b), level)
			}
		}
	}
}

// Bytes that can't be packed take no more than stored ones, nor do those of which a
// part is packed.
func TestDeflateAtTheBound(t *testing.T) {
	s := &numbers{4711}
	for _, n := range []int{1, 2, 3, 1000, 16383, 16384, 16385, 65534, 65535, 65536, 65537, 131070, 131071} {
		b := s.anyBytes(n, 256)
		for _, level := range []int{1, 9} {
			wantDeflated(t, b, level)
			wantDeflated(t, append(slices.Clone(b), b[max(0, n-4):]...), level)
			wantDeflated(t, append(slices.Clone(b), make([]byte, 30)...), level)
			wantDeflated(t, slices.Concat(make([]byte, 30), b, make([]byte, 300)), level)
		}
	}
}

// All that is between two lengths, and around where a distance takes one bit more,
// is told by the right symbol, and the right bits behind it.
func TestDeflateAtEachLengthAndDistance(t *testing.T) {
	ahead := unlike(300)
	for n := 1; n <= 300; n++ {
		b := slices.Concat(ahead, []byte{99}, ahead[:n], []byte{98})
		wantDeflated(t, b, 6)
		wantDeflated(t, slices.Repeat([]byte{7}, n), 6)
	}
	far := unlike(40000)
	for e := 1; e <= 15; e++ {
		for _, half := range []int{2, 3} {
			for dist := half<<e/2 - 1; dist <= half<<e/2+2; dist++ {
				text := append(far[:dist:dist], far[:min(dist, 50)]...)
				wantDeflated(t, text, 1)
				wantDeflated(t, text, 9)
			}
		}
	}
}

// Each kind of block is written, where it takes the fewest bits.
func TestDeflateWritesEachKind(t *testing.T) {
	s := &numbers{1001}
	for _, c := range []struct {
		b    []byte
		kind int
	}{{s.anyBytes(1000, 256), 0}, {[]byte("abc"), 1}, {nil, 1}, {s.uneven(5000), 2}, {[]byte(strings.Repeat("ab", 100000)), 2}} {
		for level := 1; level <= 9; level++ {
			for _, x := range wantPacked(t, wantDeflated(t, c.b, level), c.b) {
				if x.kind != c.kind {
					t.Errorf("%d bytes, level %d: kind %d at %d", len(c.b), level, x.kind, x.at)
				}
			}
		}
	}
	// Of what is packed well, and what isn't, each part is as it is best.
	plain := slices.Concat(s.uneven(200000), s.anyBytes(200000, 256), s.uneven(200000))
	kinds := map[int]int{}
	for _, x := range wantPacked(t, wantDeflated(t, plain, 6), plain) {
		kinds[x.kind]++
	}
	if kinds[0] == 0 || kinds[2] == 0 {
		t.Errorf("kinds %v", kinds)
	}
}

// Bytes of which the lesser ones are so few that their codes come up to the limit.
func TestDeflateOfLongCodes(t *testing.T) {
	var b []byte
	few, many := 1, 1
	for c := range 21 {
		for range few {
			b = append(b, byte(c))
		}
		few, many = many, few+many
	}
	s := &numbers{55}
	for i := range b {
		k := s.below(len(b))
		b[i], b[k] = b[k], b[i]
	}
	for level := 0; level <= 9; level++ {
		wantDeflated(t, b, level)
		wantDeflated(t, b[:16000], level)
	}
}

// storedOf: what Stored is to answer.
func storedOf(b []byte) []byte {
	var out []byte
	for len(b) > 65535 {
		out = append(append(out, 0, 255, 255, 0, 0), b[:65535]...)
		b = b[65535:]
	}
	low, high := byte(len(b)%256), byte(len(b)/256)
	return append(append(out, 1, low, high, 255-low, 255-high), b...)
}

func TestStored(t *testing.T) {
	if p := deflate.Stored([]byte("a")); !bytes.Equal(p, []byte{1, 1, 0, 254, 255, 97}) {
		t.Errorf("%v", p)
	}
	for _, p := range [][]byte{deflate.Stored(nil), deflate.Stored([]byte{})} {
		if !bytes.Equal(p, []byte{1, 0, 0, 255, 255}) {
			t.Errorf("%v", p)
		}
	}
	s := &numbers{12}
	b := s.anyBytes(400000, 256)
	for _, n := range []int{0, 1, 2, 254, 255, 256, 257, 511, 65279, 65280, 65533, 65534, 65535, 65536, 65537, 131069, 131070, 131071, 196605, 196606, 400000} {
		p := deflate.Stored(b[:n])
		if !bytes.Equal(p, storedOf(b[:n])) {
			t.Errorf("%d bytes: others", n)
		}
		for _, x := range wantPacked(t, p, b[:n]) {
			if x.kind != 0 || x.at%65535 != 0 {
				t.Errorf("%d bytes: kind %d at %d", n, x.kind, x.at)
			}
		}
		if len(p) != deflate.Bound(n) {
			t.Errorf("%d bytes: %d, Bound %d", n, len(p), deflate.Bound(n))
		}
	}
}

// P8.2

func TestBound(t *testing.T) {
	for n, want := range map[int]int{
		0: 5, 1: 6, 2: 7, 65534: 65539, 65535: 65540, 65536: 65546, 131070: 131080, 131071: 131086, 1 << 24: 1<<24 + 5*257, 65535 * 65535: 65535*65535 + 5*65535,
		1 << 40: 1<<40 + 5*16777473, 1<<40 - 1: 1<<40 - 1 + 5*16777473, 1<<40 + 1: 0, 1 << 41: 0, -65535: 0,
	} {
		if bound := deflate.Bound(n); bound != want {
			t.Errorf("%d: %d, want %d", n, bound, want)
		}
	}
	for _, n := range farNumbers {
		want := 0
		if n == 1<<31 || n == 1<<32 {
			want = n + 5*((n-1)/65535+1)
		}
		if bound := deflate.Bound(n); bound != want {
			t.Errorf("%d: %d, want %d", n, bound, want)
		}
	}
}

// someCuts: places within n bytes, and others.
func someCuts(n int, s *numbers) [][]int {
	list := [][]int{
		nil, {}, {0}, {1}, {n}, {n - 1}, {n + 1}, {-1}, {n / 2}, {10, 5, 5, -3, 0}, {n / 2, n / 2, n / 2}, {1, 2, 3, 4, 5, 6, 7, 8, 9}, {n - 1, n - 2, n - 3},
		{65534, 65535, 65536}, {16383, 16384, 16385}, farNumbers, append([]int{n / 3}, farNumbers...),
	}
	for range 3 {
		var cuts []int
		for range s.below(40) {
			cuts = append(cuts, s.below(n+2)-1)
		}
		list = append(list, cuts)
	}
	return list
}

func TestBlocks(t *testing.T) {
	s := &numbers{808}
	for i, b := range someTexts() {
		for k, cuts := range someCuts(len(b), s) {
			wantBlocks(t, b, (i+k)%10, cuts...)
		}
	}
}

func TestBlocksAtEachLevel(t *testing.T) {
	s := &numbers{4}
	for _, b := range [][]byte{nil, []byte("a"), []byte("abcabcabcabc"), s.anyBytes(2000, 256), s.uneven(2000), make([]byte, 1000)} {
		for _, level := range levels {
			for _, cuts := range someCuts(len(b), s) {
				wantBlocks(t, b, level, cuts...)
			}
		}
	}
}

// All texts' cuts, of up to seven bytes.
func TestBlocksAtAllCuts(t *testing.T) {
	for _, text := range []string{"", "a", "ab", "aaa", "aaaa", "aaaaa", "ababab", "aaaaaaa", "abcdefg", "abcdabc"} {
		for set := range 1 << (len(text) + 1) {
			var cuts []int
			for n := range len(text) + 1 {
				if set>>n&1 == 1 {
					cuts = append(cuts, n)
				}
			}
			for _, level := range []int{0, 1, 9} {
				wantBlocks(t, []byte(text), level, cuts...)
				slices.Reverse(cuts)
			}
		}
	}
}

// A copy is parted at any place, and at several ones.
func TestBlocksWithinCopies(t *testing.T) {
	for _, b := range [][]byte{make([]byte, 300), []byte(strings.Repeat("abcde", 60))} {
		for n := range 300 {
			wantBlocks(t, b, 6, n)
			for more := 1; more <= 5; more++ {
				wantBlocks(t, b, 6, n+more, n)
			}
		}
		for step := 1; step <= 10; step++ {
			var cuts []int
			for n := 0; n < 300; n += step {
				cuts = append(cuts, n)
			}
			wantBlocks(t, b, 6, cuts...)
		}
	}
}

func TestBlocksOfManyCuts(t *testing.T) {
	s := &numbers{70}
	for _, b := range [][]byte{s.anyBytes(5000, 256), s.uneven(5000), unlike(5000), make([]byte, 5000)} {
		var cuts []int
		for n := range 5000 {
			cuts = append(cuts, (n*1237)%5000, n)
		}
		for _, level := range []int{0, 1, 9} {
			wantBlocks(t, b, level, cuts...)
		}
	}
}

// What stands ahead of a place is gone back to behind it.
func TestBlocksGoBackAcrossPlaces(t *testing.T) {
	s := &numbers{3}
	b := slices.Repeat(s.anyBytes(2000, 256), 10)
	p := deflate.Blocks(b, 6, 2000, 4000, 6000, 12000)
	wantPacked(t, p, b)
	if len(p) > 3000 {
		t.Errorf("%d bytes", len(p))
	}
}

// P8.3

func TestRowsOfOneByte(t *testing.T) {
	sizes := []int{2000, 4096, 10000, 65535, 65536, 1 << 18}
	for n := 1000; n <= 1270; n++ {
		sizes = append(sizes, n)
	}
	for _, n := range sizes {
		for _, c := range []byte{0, 143, 255} {
			b := slices.Repeat([]byte{c}, n)
			for level := 1; level <= 9; level++ {
				if p := deflate.Deflate(b, level); len(p) > n/10 {
					t.Errorf("%d times %d, level %d: %d bytes", n, c, level, len(p))
				}
			}
			wantDeflated(t, b, 1+n%9)
		}
	}
}

func TestWhatComesAgain(t *testing.T) {
	s := &numbers{2026}
	for n := 4; n <= 60; n++ {
		texts := [][]byte{s.anyBytes(n, 256), s.anyBytes(n, 100), s.anyBytes(n, 2), s.uneven(n), unlike(n), make([]byte, n), append(make([]byte, n-1), 1), slices.Concat(make([]byte, n/2), s.anyBytes(n-n/2, 256))}
		for i, text := range texts {
			for _, times := range []int{20, 21, 200} {
				b := slices.Repeat(text, times)
				for level := 1; level <= 9; level++ {
					if p := deflate.Deflate(b, level); len(p) > len(b)/2 {
						t.Errorf("%d bytes %d times, text %d, level %d: %d bytes", n, times, i, level, len(p))
					}
				}
				wantDeflated(t, b, 1+n%9)
			}
		}
	}
}

func TestDeflateOfManyBytes(t *testing.T) {
	s := &numbers{8080}
	b := make([]byte, api.MaxBytes)
	for _, level := range []int{1, 9} {
		if p := wantDeflated(t, b, level); len(p) > 20000 {
			t.Errorf("level %d: %d bytes", level, len(p))
		}
		wantDeflated(t, s.anyBytes(1<<20, 256), level)
		wantDeflated(t, s.uneven(1<<20), level)
	}
}

// amid: a list in the midst of others, and all of them.
func amid[T any](list []T, other T) (part, all []T) {
	all = slices.Concat([]T{other, other}, list, list, []T{other, other})
	return all[2 : 2+len(list)], all
}

func TestWhatIsHandedInStays(t *testing.T) {
	s := &numbers{66}
	for _, b := range someTexts() {
		part, all := amid(b, 9)
		kept := slices.Clone(all)
		for _, cuts := range someCuts(len(b), s)[14:] {
			cutsPart, cutsAll := amid(cuts, 4)
			keptCuts := slices.Clone(cutsAll)
			for _, level := range []int{0, 6} {
				deflate.Blocks(part, level, cutsPart...)
			}
			if !slices.Equal(cutsAll, keptCuts) {
				t.Fatalf("%d bytes: cuts changed", len(b))
			}
		}
		for _, level := range []int{0, 1, 6, 9} {
			deflate.Deflate(part, level)
		}
		deflate.Stored(part)
		if !bytes.Equal(all, kept) {
			t.Fatalf("%d bytes: changed", len(b))
		}
	}
}

// spoil writes over bytes, and behind their length.
func spoil(b []byte) {
	b = b[:cap(b)]
	for i := range b {
		b[i] = 0xee
	}
}

func TestAnswersAreNew(t *testing.T) {
	calls := []func(b []byte) []byte{
		deflate.Stored,
		func(b []byte) []byte { return deflate.Deflate(b, 0) },
		func(b []byte) []byte { return deflate.Deflate(b, 6) },
		func(b []byte) []byte { return deflate.Blocks(b, 0, 1, len(b)/2) },
		func(b []byte) []byte { return deflate.Blocks(b, 6, 1, len(b)/2) },
	}
	for _, b := range someTexts() {
		for i, call := range calls {
			given := slices.Clone(b)
			p, again := call(given), call(given)
			if !bytes.Equal(p, again) {
				t.Fatalf("%d bytes, call %d: others the second time", len(b), i)
			}
			kept := slices.Clone(p)
			spoil(again)
			if !bytes.Equal(p, kept) || !bytes.Equal(given, b) || !bytes.Equal(call(given), kept) {
				t.Fatalf("%d bytes, call %d: one memory", len(b), i)
			}
			spoil(given)
			if !bytes.Equal(p, kept) {
				t.Fatalf("%d bytes, call %d: what is answered hangs on the bytes", len(b), i)
			}
		}
	}
}
