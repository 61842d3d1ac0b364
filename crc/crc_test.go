package crc_test

import (
	"bytes"
	"math"
	"testing"

	"etui/crc"
)

// someSums: sums with no bit, each bit alone, all bits, and a few others.
func someSums() []uint32 {
	sums := []uint32{0, math.MaxUint32, 0x9e3779b9, 0xcbf43926, 0x0000ffff, 0xffff0000}
	for i := range 32 {
		sums = append(sums, 1<<i)
	}
	return sums
}

// sample: bytes in which no two neighbours are alike.
func sample(n int) []byte {
	b := make([]byte, n)
	x := uint32(12345)
	for i := range b {
		x = x*1664525 + 1013904223
		b[i] = byte(x >> 24)
	}
	return b
}

// steps: what bytes make of a row of bits, a step after the other, as the
// chapter tells it.
func steps(x uint32, b []byte) uint32 {
	for _, v := range b {
		x ^= uint32(v)
		for range 8 {
			low := x % 2
			x /= 2
			if low == 1 {
				x ^= 0xedb88320
			}
		}
	}
	return x
}

// slowSum: the sum, by those steps.
func slowSum(b []byte) uint32 { return ^steps(math.MaxUint32, b) }

// slowUpdate: the sum of bytes whose sum is told, with others behind them, by
// those steps.
func slowUpdate(sum uint32, b []byte) uint32 { return ^steps(^sum, b) }

// times: two rows of bits as polynomials over two numbers (the highest bit is
// the constant), multiplied, by the modulus of the sum.
func times(a, b uint32) uint32 {
	made := uint32(0)
	for i := 31; i >= 0; i-- {
		if a>>i&1 == 1 {
			made ^= b
		}
		low := b & 1
		b >>= 1
		if low == 1 {
			b ^= 0xedb88320
		}
	}
	return made
}

// slowPast: what n noughts make of a row of bits: the row, times x to the
// power of 8n.
func slowPast(x uint32, n uint64) uint32 {
	power := uint32(1 << 23)
	for ; n > 0; n >>= 1 {
		if n&1 == 1 {
			x = times(x, power)
		}
		power = times(power, power)
	}
	return x
}

func wantSum(t *testing.T, what string, got, want uint32) {
	t.Helper()
	if got != want {
		t.Errorf("%s: %08x, want %08x", what, got, want)
	}
}

// P2.1

func TestSumKnown(t *testing.T) {
	for _, c := range []struct {
		s    string
		want uint32
	}{
		{"123456789", 0xcbf43926}, {"", 0}, {"a", 0xe8b7be43}, {"abc", 0x352441c2},
		{"\x00", 0xd202ef8d}, {"\xff", 0xff000000}, {"\xff\xff\xff\xff", 0xffffffff},
		{"mimetype", 0x78c00fb9}, {"message digest", 0x20159d7f},
	} {
		wantSum(t, c.s, crc.Sum([]byte(c.s)), c.want)
	}
	wantSum(t, "nil", crc.Sum(nil), 0)
}

func TestSumOfEveryByte(t *testing.T) {
	for v := range 256 {
		b := []byte{byte(v)}
		wantSum(t, "one byte", crc.Sum(b), slowSum(b))
		b = []byte{byte(v), byte(v), 7}
		wantSum(t, "three bytes", crc.Sum(b), slowSum(b))
	}
}

func TestSumOfEveryLength(t *testing.T) {
	b := sample(600)
	for n := range len(b) + 1 {
		wantSum(t, "sample", crc.Sum(b[:n]), slowSum(b[:n]))
	}
	long := sample(1 << 20)
	wantSum(t, "long", crc.Sum(long), slowSum(long))
}

func TestUpdate(t *testing.T) {
	b := sample(70)
	for cut := range len(b) + 1 {
		wantSum(t, "cut", crc.Update(crc.Sum(b[:cut]), b[cut:]), slowSum(b))
	}
	for _, sum := range someSums() {
		wantSum(t, "no bytes", crc.Update(sum, nil), sum)
		wantSum(t, "no bytes", crc.Update(sum, []byte{}), sum)
		wantSum(t, "one byte", crc.Update(sum, b[:1]), slowUpdate(sum, b[:1]))
		wantSum(t, "bytes", crc.Update(sum, b), slowUpdate(sum, b))
	}
}

func TestZeros(t *testing.T) {
	noughts := make([]byte, 300)
	for _, sum := range someSums() {
		for n := range len(noughts) + 1 {
			wantSum(t, "noughts", crc.Zeros(sum, n), slowUpdate(sum, noughts[:n]))
		}
	}
	wantSum(t, "four", crc.Zeros(0, 4), 0x2144df1c)
}

func TestZerosBelowNone(t *testing.T) {
	for _, n := range []int{0, -1, -2, -8, -255, math.MinInt32, math.MinInt + 1, math.MinInt} {
		for _, sum := range someSums() {
			wantSum(t, "Zeros", crc.Zeros(sum, n), sum)
		}
	}
}

// manyNoughts: numbers around each power of two, up to the greatest one.
func manyNoughts() []int {
	var many []int
	for i := 8; i <= 62; i++ {
		many = append(many, 1<<i-1, 1<<i, 1<<i+1)
	}
	return append(many, math.MaxUint32, 3<<40, 3<<60, 1<<62+12345, math.MaxInt-1, math.MaxInt)
}

func TestZerosMany(t *testing.T) {
	for _, n := range manyNoughts() {
		for _, sum := range someSums() {
			wantSum(t, "Zeros", crc.Zeros(sum, n), ^slowPast(^sum, uint64(n)))
		}
	}
	// The steps come back to where they began after 2^32 - 1 noughts.
	wantSum(t, "all around", crc.Zeros(12345, math.MaxUint32), 12345)
}

func TestJoin(t *testing.T) {
	b := sample(300)
	for _, first := range []int{0, 1, 3, 4, 5, 50, 299, 300} {
		a := crc.Sum(b[:first])
		for behind := first; behind <= len(b); behind++ {
			got := crc.Join(a, crc.Sum(b[first:behind]), behind-first)
			wantSum(t, "Join", got, slowSum(b[:behind]))
		}
	}
}

func TestJoinOfAnySums(t *testing.T) {
	b := sample(40)
	for _, a := range someSums() {
		wantSum(t, "bytes behind", crc.Join(a, crc.Sum(b), len(b)), slowUpdate(a, b))
		wantSum(t, "no bytes behind", crc.Join(a, 0, 0), a)
		wantSum(t, "bytes behind none", crc.Join(0, a, 40), a)
	}
}

func TestJoinBelowNone(t *testing.T) {
	for _, n := range []int{-1, -2, -8, -255, math.MinInt32, math.MinInt + 1, math.MinInt} {
		for _, a := range someSums() {
			wantSum(t, "no bytes behind", crc.Join(a, 0, n), a)
			wantSum(t, "as of 0", crc.Join(a, 0x9e3779b9, n), crc.Join(a, 0x9e3779b9, 0))
		}
	}
}

func TestJoinMany(t *testing.T) {
	for _, n := range manyNoughts() {
		for _, a := range someSums() {
			wantSum(t, "noughts behind", crc.Join(a, crc.Zeros(0, n), n), crc.Zeros(a, n))
			wantSum(t, "bytes behind", crc.Join(a, 0x352441c2, n), slowPast(a, uint64(n))^0x352441c2)
		}
	}
}

func TestSumsLeaveTheBytes(t *testing.T) {
	all := sample(60)
	kept := bytes.Clone(all)
	part := all[10:30]
	crc.Sum(part)
	crc.Update(7, part)
	if !bytes.Equal(all, kept) {
		t.Error("bytes handed in are changed")
	}
}

// P2.2

// wantDigest asks what sum a digest has, and of how many bytes, twice: asking
// changes nothing.
func wantDigest(t *testing.T, d *crc.Digest, b []byte) {
	t.Helper()
	for range 2 {
		wantSum(t, "digest", d.Sum(), slowSum(b))
		if d.Len() != len(b) {
			t.Errorf("Len %d, want %d", d.Len(), len(b))
		}
	}
}

func TestDigestBegins(t *testing.T) {
	d := crc.New()
	wantDigest(t, d, nil)
	d.Write(nil)
	d.Write([]byte{})
	wantDigest(t, d, nil)
}

func TestDigestWrites(t *testing.T) {
	b := sample(1000)
	for _, width := range []int{1, 2, 3, 7, 64, 255, 256, 257, 999, 1000} {
		d := crc.New()
		for at := 0; at < len(b); at += width {
			behind := min(at+width, len(b))
			d.Write(b[at:behind])
			wantDigest(t, d, b[:behind])
			d.Write(nil)
			wantDigest(t, d, b[:behind])
		}
	}
}

func TestDigestOfNoughts(t *testing.T) {
	d := crc.New()
	noughts := make([]byte, 5)
	for n := range noughts {
		wantDigest(t, d, noughts[:n])
		d.Write(noughts[:1])
	}
	wantDigest(t, d, noughts)
}

func TestDigestsApart(t *testing.T) {
	a, b := crc.New(), crc.New()
	a.Write([]byte("1234"))
	b.Write([]byte("abc"))
	a.Write([]byte("56789"))
	wantDigest(t, a, []byte("123456789"))
	wantDigest(t, b, []byte("abc"))
	wantDigest(t, crc.New(), nil)
}

func TestDigestKeepsNothing(t *testing.T) {
	all := []byte("123456789")
	part := all[:4]
	d := crc.New()
	d.Write(part)
	if string(all) != "123456789" {
		t.Errorf("bytes handed in are changed: %q", all)
	}
	copy(all, "xxxxxxxxx")
	wantDigest(t, d, []byte("1234"))
	d.Write([]byte("56789"))
	wantDigest(t, d, []byte("123456789"))
	if string(all) != "xxxxxxxxx" {
		t.Errorf("bytes handed in are changed: %q", all)
	}
}
