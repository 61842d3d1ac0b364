// Package bits is layer 1: rows of bits in bytes, the lowest bit of each byte
// first. See shared/doc/01-bits.md.
package bits

import (
	"bytes"
	mathbits "math/bits"
)

// maxBits is how many bits one number may have.
const maxBits = 32

// Reader reads bits, from a place on.
type Reader struct {
	b  []byte
	at int
}

// NewReader: a reader of bytes, as they are now.
func NewReader(b []byte) *Reader {
	return &Reader{b: bytes.Clone(b)}
}

// Bits: the number of n bits at the place, which goes on by them.
func (r *Reader) Bits(n int) (uint32, bool) {
	if n > maxBits {
		return 0, false
	}
	v := r.Peek(n)
	if !r.Skip(n) {
		return 0, false
	}
	return v, true
}

// Peek: that number, with noughts behind the end; the place stays.
func (r *Reader) Peek(n int) uint32 {
	if !isWidth(n) {
		return 0
	}
	// 32 bits that begin within a byte end in the fifth one.
	first := r.at / 8
	behind := min(first+5, len(r.b))
	var v uint64
	for i, x := range r.b[first:behind] {
		v |= uint64(x) << (8 * i)
	}
	return uint32(lowest(v>>(r.at%8), n))
}

// Skip: the place goes on by n bits, if as many are left.
func (r *Reader) Skip(n int) bool {
	if n < 0 || n > r.Left() {
		return false
	}
	r.at += n
	return true
}

// Align: the place goes on to the next multiple of 8, if it is none.
func (r *Reader) Align() {
	r.at = bytesFor(r.at) * 8
}

// Bytes: n bytes from the aligned place on, which goes on by them.
func (r *Reader) Bytes(n int) ([]byte, bool) {
	first := bytesFor(r.at)
	if n < 0 || n > len(r.b)-first {
		return nil, false
	}
	behind := first + n
	r.at = behind * 8
	return bytes.Clone(r.b[first:behind]), true
}

// At: the place.
func (r *Reader) At() int { return r.at }

// Left: how many bits are left.
func (r *Reader) Left() int { return len(r.b)*8 - r.at }

// Writer writes bits, behind those it has. The bits of its last byte that are
// not written yet are noughts.
type Writer struct {
	b []byte
	n int
}

// NewWriter: a writer without bits.
func NewWriter() *Writer { return &Writer{} }

// Put: the lowest n bits of v behind the others.
func (w *Writer) Put(v uint32, n int) {
	if !isWidth(n) {
		return
	}
	x := lowest(uint64(v), n)
	free := len(w.b)*8 - w.n
	if free > 0 {
		w.b[len(w.b)-1] |= byte(x << (8 - free))
	}
	for done := free; done < n; done += 8 {
		w.b = append(w.b, byte(x>>done))
	}
	w.n += n
}

// Align: noughts up to a multiple of 8.
func (w *Writer) Align() { w.n = len(w.b) * 8 }

// Raw: aligned, and then these bytes.
func (w *Writer) Raw(b []byte) {
	w.b = append(w.b, b...)
	w.Align()
}

// Len: how many bits there are.
func (w *Writer) Len() int { return w.n }

// Out: the bytes, the last one filled up with noughts.
func (w *Writer) Out() []byte { return bytes.Clone(w.b) }

// Reverse: the lowest n bits of v, turned around.
func Reverse(v uint32, n int) uint32 {
	if !isWidth(n) {
		return 0
	}
	return mathbits.Reverse32(v) >> (maxBits - n)
}

// isWidth tells whether a number may have n bits.
func isWidth(n int) bool { return n >= 0 && n <= maxBits }

// lowest: the lowest n bits of v.
func lowest(v uint64, n int) uint64 { return v & (1<<n - 1) }

// bytesFor: how many bytes so many bits reach into.
func bytesFor(n int) int { return (n + 7) / 8 }
