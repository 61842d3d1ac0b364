package bits_test

import (
	"bytes"
	"math"
	"testing"

	"etui/bits"
)

// wrongCounts are numbers of bits that no number has.
var wrongCounts = []int{-1, 33, 64, -32, math.MinInt, math.MaxInt, 1 << 32, math.MinInt + 32}

// sample: bytes in which no two neighbours are alike.
func sample(n int) []byte {
	b := make([]byte, n)
	x := uint32(12345)
	for i := range b {
		x = x*1664525 + 1013904223
		b[i] = byte(x >> 24)
	}
	return b
}

// bitOf: the bit n of bytes, 0 behind their end.
func bitOf(b []byte, n int) uint32 {
	if n/8 >= len(b) {
		return 0
	}
	return uint32(b[n/8]>>(n%8)) & 1
}

// numberAt: the number of n bits at a place, bit by bit.
func numberAt(b []byte, at, n int) uint32 {
	v := uint32(0)
	for i := range n {
		v |= bitOf(b, at+i) << i
	}
	return v
}

// readerAt: a reader of bytes that stands at a place.
func readerAt(t *testing.T, b []byte, at int) *bits.Reader {
	t.Helper()
	r := bits.NewReader(b)
	if !r.Skip(at) {
		t.Fatalf("no place %d in %d bytes", at, len(b))
	}
	return r
}

// wantAt asks where the reader stands, and how many bits are left to it.
func wantAt(t *testing.T, r *bits.Reader, size, at int) {
	t.Helper()
	if r.At() != at || r.Left() != size*8-at {
		t.Fatalf("at %d with %d left, want %d with %d left", r.At(), r.Left(), at, size*8-at)
	}
}

func wantBytes(t *testing.T, got, want []byte) {
	t.Helper()
	if !bytes.Equal(got, want) {
		t.Fatalf("got % x, want % x", got, want)
	}
}

// P1.1

func TestReaderBegins(t *testing.T) {
	wantAt(t, bits.NewReader(nil), 0, 0)
	wantAt(t, bits.NewReader([]byte{}), 0, 0)
	wantAt(t, bits.NewReader([]byte{1, 2, 3}), 3, 0)
}

func TestBitsLowestFirst(t *testing.T) {
	r := bits.NewReader([]byte{0b1101_0110, 0b0000_0011})
	for i, want := range []uint32{0, 1, 1, 0, 1, 0, 1, 1, 1, 1, 0, 0, 0, 0, 0, 0} {
		if v, ok := r.Bits(1); v != want || !ok {
			t.Errorf("bit %d: %d %v, want %d", i, v, ok, want)
		}
	}
	if v, ok := r.Bits(1); v != 0 || ok {
		t.Errorf("behind the end: %d %v", v, ok)
	}
}

func TestBitsAndPeekAtEveryPlace(t *testing.T) {
	b := sample(11)
	for at := range len(b)*8 + 1 {
		for n := range 33 {
			r := readerAt(t, b, at)
			want := numberAt(b, at, n)
			if v := r.Peek(n); v != want {
				t.Fatalf("Peek(%d) at %d: %x, want %x", n, at, v, want)
			}
			wantAt(t, r, len(b), at)
			v, ok := r.Bits(n)
			if at+n > len(b)*8 {
				if v != 0 || ok {
					t.Fatalf("Bits(%d) at %d: %x %v", n, at, v, ok)
				}
				wantAt(t, r, len(b), at)
				continue
			}
			if v != want || !ok {
				t.Fatalf("Bits(%d) at %d: %x %v, want %x", n, at, v, ok, want)
			}
			wantAt(t, r, len(b), at+n)
		}
	}
}

func TestBitsOutOfBounds(t *testing.T) {
	b := []byte{255, 255, 255, 255, 255, 255, 255, 255, 255, 255}
	for _, n := range wrongCounts {
		r := readerAt(t, b, 3)
		if v, ok := r.Bits(n); v != 0 || ok {
			t.Errorf("Bits(%d): %x %v", n, v, ok)
		}
		if v := r.Peek(n); v != 0 {
			t.Errorf("Peek(%d): %x", n, v)
		}
		wantAt(t, r, len(b), 3)
	}
}

func TestBitsOfNothing(t *testing.T) {
	r := bits.NewReader(nil)
	if v, ok := r.Bits(0); v != 0 || !ok {
		t.Errorf("Bits(0): %d %v", v, ok)
	}
	if v, ok := r.Bits(1); v != 0 || ok {
		t.Errorf("Bits(1): %d %v", v, ok)
	}
	if v := r.Peek(32); v != 0 {
		t.Errorf("Peek(32): %d", v)
	}
	if !r.Skip(0) || r.Skip(1) {
		t.Error("Skip")
	}
	r.Align()
	if x, ok := r.Bytes(0); len(x) != 0 || !ok {
		t.Errorf("Bytes(0): % x %v", x, ok)
	}
	if x, ok := r.Bytes(1); len(x) != 0 || ok {
		t.Errorf("Bytes(1): % x %v", x, ok)
	}
	wantAt(t, r, 0, 0)
}

func TestSkip(t *testing.T) {
	b := sample(40)
	for at := 0; at <= 320; at += 5 {
		for n := 0; n <= 320; n += 3 {
			r := readerAt(t, b, at)
			if ok := r.Skip(n); ok != (at+n <= 320) {
				t.Fatalf("Skip(%d) at %d: %v", n, at, ok)
			}
			if at+n <= 320 {
				at := at + n
				wantAt(t, r, len(b), at)
				continue
			}
			wantAt(t, r, len(b), at)
		}
	}
}

func TestSkipOutOfBounds(t *testing.T) {
	for _, n := range []int{-1, -8, 14, 17, math.MaxInt, math.MaxInt - 2, math.MinInt, math.MinInt + 3} {
		r := readerAt(t, []byte{1, 2}, 3)
		if r.Skip(n) {
			t.Errorf("Skip(%d) at 3 of 16", n)
		}
		wantAt(t, r, 2, 3)
	}
	r := readerAt(t, []byte{1, 2}, 3)
	if !r.Skip(13) {
		t.Error("Skip(13) at 3 of 16")
	}
	wantAt(t, r, 2, 16)
}

func TestReaderAlign(t *testing.T) {
	b := sample(3)
	for at, want := range []int{0, 8, 8, 8, 8, 8, 8, 8, 8, 16, 16, 16, 16, 16, 16, 16, 16, 24, 24, 24, 24, 24, 24, 24, 24} {
		r := readerAt(t, b, at)
		r.Align()
		wantAt(t, r, 3, want)
		r.Align()
		wantAt(t, r, 3, want)
	}
}

func TestBytesAtEveryPlace(t *testing.T) {
	b := sample(6)
	for at := range len(b)*8 + 1 {
		first := (at + 7) / 8
		for n := range len(b) + 2 {
			r := readerAt(t, b, at)
			x, ok := r.Bytes(n)
			if first+n > len(b) {
				if len(x) != 0 || ok {
					t.Fatalf("Bytes(%d) at %d: % x %v", n, at, x, ok)
				}
				wantAt(t, r, len(b), at)
				continue
			}
			if !ok {
				t.Fatalf("Bytes(%d) at %d: none", n, at)
			}
			wantBytes(t, x, b[first:first+n])
			wantAt(t, r, len(b), (first+n)*8)
		}
	}
}

func TestBytesOutOfBounds(t *testing.T) {
	for _, n := range []int{-1, 3, math.MaxInt, math.MaxInt / 8, math.MaxInt/8 + 1, 1 << 61, math.MinInt, math.MinInt / 8} {
		r := readerAt(t, []byte{1, 2, 3}, 3)
		if x, ok := r.Bytes(n); len(x) != 0 || ok {
			t.Errorf("Bytes(%d): % x %v", n, x, ok)
		}
		wantAt(t, r, 3, 3)
	}
}

func TestReaderMixed(t *testing.T) {
	r := bits.NewReader([]byte{0x0b, 0xaa, 0xbb, 0x34, 0x12})
	if v, ok := r.Bits(3); v != 3 || !ok {
		t.Errorf("%x %v", v, ok)
	}
	if v := r.Peek(2); v != 1 {
		t.Errorf("%x", v)
	}
	x, ok := r.Bytes(2)
	if !ok {
		t.Error("no bytes")
	}
	wantBytes(t, x, []byte{0xaa, 0xbb})
	if v, ok := r.Bits(16); v != 0x1234 || !ok {
		t.Errorf("%x %v", v, ok)
	}
	wantAt(t, r, 5, 40)
}

// P1.2

func TestPutLowestFirst(t *testing.T) {
	w := bits.NewWriter()
	w.Put(5, 3)
	w.Put(1, 1)
	wantBytes(t, w.Out(), []byte{13})
	if w.Len() != 4 {
		t.Errorf("Len %d", w.Len())
	}
}

func TestWriterBegins(t *testing.T) {
	w := bits.NewWriter()
	if w.Len() != 0 || len(w.Out()) != 0 {
		t.Errorf("%d % x", w.Len(), w.Out())
	}
	w.Align()
	w.Raw(nil)
	w.Put(math.MaxUint32, 0)
	if w.Len() != 0 || len(w.Out()) != 0 {
		t.Errorf("%d % x", w.Len(), w.Out())
	}
}

func TestPutAtEveryPlace(t *testing.T) {
	for at := range 41 {
		for n := range 33 {
			w := bits.NewWriter()
			for range at {
				w.Put(1, 1)
			}
			// Bits of the number above the lowest n must not be seen.
			v := uint32(0x9e3779b9)
			w.Put(v, n)
			if w.Len() != at+n {
				t.Fatalf("Put(%d) at %d: Len %d", n, at, w.Len())
			}
			b := w.Out()
			if len(b) != (at+n+7)/8 {
				t.Fatalf("Put(%d) at %d: %d bytes", n, at, len(b))
			}
			for i := range len(b) * 8 {
				want := uint32(0)
				if i < at {
					want = 1
				} else if i < at+n {
					want = v >> (i - at) & 1
				}
				if bitOf(b, i) != want {
					t.Fatalf("Put(%d) at %d: bit %d in % x", n, at, i, b)
				}
			}
		}
	}
}

func TestPutOutOfBounds(t *testing.T) {
	for _, n := range wrongCounts {
		w := bits.NewWriter()
		w.Put(0, 3)
		w.Put(math.MaxUint32, n)
		if w.Len() != 3 {
			t.Errorf("Put(%d): Len %d", n, w.Len())
		}
		wantBytes(t, w.Out(), []byte{0})
		w.Put(3, 2)
		wantBytes(t, w.Out(), []byte{0x18})
	}
}

func TestWriterAlign(t *testing.T) {
	for n := range 25 {
		w := bits.NewWriter()
		for range n {
			w.Put(1, 1)
		}
		whole := (n + 7) / 8 * 8
		for range 2 {
			w.Align()
			if w.Len() != whole || len(w.Out()) != whole/8 {
				t.Fatalf("%d bits aligned: %d, % x", n, w.Len(), w.Out())
			}
		}
		for i := n; i < whole; i++ {
			if bitOf(w.Out(), i) != 0 {
				t.Fatalf("%d bits aligned: % x", n, w.Out())
			}
		}
		w.Put(1, 1)
		if w.Len() != whole+1 || bitOf(w.Out(), whole) != 1 {
			t.Fatalf("%d bits aligned, and one: %d, % x", n, w.Len(), w.Out())
		}
	}
}

func TestRaw(t *testing.T) {
	w := bits.NewWriter()
	w.Raw([]byte{1, 2})
	w.Put(3, 2)
	w.Raw([]byte{0xf0, 0x0f})
	if w.Len() != 40 {
		t.Errorf("Len %d", w.Len())
	}
	w.Put(1, 1)
	w.Raw(nil)
	if w.Len() != 48 {
		t.Errorf("Len %d, not aligned by no bytes", w.Len())
	}
	w.Put(1, 9)
	wantBytes(t, w.Out(), []byte{1, 2, 3, 0xf0, 0x0f, 1, 1, 0})
	if w.Len() != 57 {
		t.Errorf("Len %d", w.Len())
	}
}

func TestOutLeavesTheWriter(t *testing.T) {
	w := bits.NewWriter()
	w.Put(5, 3)
	wantBytes(t, w.Out(), []byte{5})
	wantBytes(t, w.Out(), []byte{5})
	if w.Len() != 3 {
		t.Errorf("Len %d", w.Len())
	}
	w.Put(1, 1)
	wantBytes(t, w.Out(), []byte{13})
}

func TestThereAndBack(t *testing.T) {
	w := bits.NewWriter()
	seed := sample(4 * 400)
	total := 0
	for i := range 400 {
		n := i * 7 % 33
		w.Put(numberAt(seed, i*32, 32), n)
		total += n
	}
	if w.Len() != total {
		t.Fatalf("Len %d, want %d", w.Len(), total)
	}
	r := bits.NewReader(w.Out())
	for i := range 400 {
		n := i * 7 % 33
		if v, ok := r.Bits(n); v != numberAt(seed, i*32, n) || !ok {
			t.Fatalf("number %d of %d bits: %x %v", i, n, v, ok)
		}
	}
}

// P1.3

func TestReverse(t *testing.T) {
	for _, c := range []struct {
		v    uint32
		n    int
		want uint32
	}{
		{0b1, 1, 0b1}, {0b10, 1, 0}, {0b011, 3, 0b110}, {0b1011, 3, 0b110}, {0b0010011, 7, 0b1100100},
		{1, 32, 1 << 31}, {1 << 31, 32, 1}, {1, 31, 1 << 30}, {1 << 31, 31, 0}, {0x12345678, 32, 0x1e6a2c48},
		{math.MaxUint32, 0, 0}, {math.MaxUint32, 32, math.MaxUint32}, {math.MaxUint32, 15, 0x7fff},
	} {
		if x := bits.Reverse(c.v, c.n); x != c.want {
			t.Errorf("Reverse(%x, %d): %x, want %x", c.v, c.n, x, c.want)
		}
	}
}

func TestReverseBitByBit(t *testing.T) {
	for _, v := range []uint32{0, 1, 0x9e3779b9, 0x80000001, 0xffffffff, 0x0000ffff} {
		for n := range 33 {
			want := uint32(0)
			for i := range n {
				want |= v >> i & 1 << (n - 1 - i)
			}
			if x := bits.Reverse(v, n); x != want {
				t.Errorf("Reverse(%x, %d): %x, want %x", v, n, x, want)
			}
		}
	}
}

func TestReverseOutOfBounds(t *testing.T) {
	for _, n := range wrongCounts {
		if x := bits.Reverse(math.MaxUint32, n); x != 0 {
			t.Errorf("Reverse(.., %d): %x", n, x)
		}
	}
}

func TestReaderKeepsItsOwn(t *testing.T) {
	b := []byte{1, 2, 3}
	r := bits.NewReader(b)
	b[0], b[1], b[2] = 9, 9, 9
	if v := r.Peek(24); v != 0x030201 {
		t.Errorf("%x", v)
	}
	x, _ := r.Bytes(3)
	wantBytes(t, x, []byte{1, 2, 3})
	wantBytes(t, b, []byte{9, 9, 9})
}

func TestBytesIsNewMemory(t *testing.T) {
	b := []byte{1, 2, 3, 4}
	r := bits.NewReader(b)
	x, _ := r.Bytes(2)
	x[0], x[1] = 9, 9
	x = append(x, 9, 9)
	y, _ := r.Bytes(2)
	wantBytes(t, y, []byte{3, 4})
	y[0] = 8
	wantBytes(t, x, []byte{9, 9, 9, 9})
	wantBytes(t, b, []byte{1, 2, 3, 4})
}

func TestReaderLeavesWhatItHas(t *testing.T) {
	r := bits.NewReader([]byte{1, 2})
	x, _ := r.Bytes(0)
	_ = append(x, 9, 9)
	y, _ := r.Bytes(1)
	_ = append(y, 9)
	if v, ok := r.Bits(8); v != 2 || !ok {
		t.Errorf("%d %v", v, ok)
	}
}

func TestOutIsNewMemory(t *testing.T) {
	w := bits.NewWriter()
	w.Put(5, 3)
	x := w.Out()
	y := w.Out()
	x[0] = 9
	wantBytes(t, y, []byte{5})
	w.Put(3, 2)
	wantBytes(t, y, []byte{5})
	_ = append(y, 7)
	w.Put(0, 11)
	wantBytes(t, w.Out(), []byte{0x1d, 0})
	whole := w.Out()
	_ = append(whole, 7)
	w.Put(1, 1)
	wantBytes(t, w.Out(), []byte{0x1d, 0, 1})
}

func TestRawKeepsNothing(t *testing.T) {
	all := []byte{1, 2, 3, 4}
	b := all[:2]
	w := bits.NewWriter()
	w.Raw(b)
	b[0] = 9
	wantBytes(t, w.Out(), []byte{1, 2})
	w.Put(255, 8)
	w.Raw([]byte{7})
	wantBytes(t, w.Out(), []byte{1, 2, 255, 7})
	wantBytes(t, all, []byte{9, 2, 3, 4})
}
