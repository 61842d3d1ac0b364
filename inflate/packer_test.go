package inflate_test

import (
	"slices"

	"etui/bits"
	"etui/huff"
	"etui/inflate"
	"etui/lens"
)

// packer writes blocks.
type packer struct{ *bits.Writer }

// step is a symbol by the first code; behind one of a length its bits more, and a
// symbol by the other code with its bits more.
type step struct{ sym, extra, far, farExtra int }

// end is the step at a block's end.
var end = step{sym: 256}

func newPacker() packer { return packer{bits.NewWriter()} }

// kind writes the beginning of a block.
func (p packer) kind(last, kind int) {
	p.Put(uint32(last), 1)
	p.Put(uint32(kind), 2)
}

// numbers writes numbers of n bits.
func (p packer) numbers(n int, list ...int) {
	for _, v := range list {
		p.Put(uint32(v), n)
	}
}

// stored writes a stored block.
func (p packer) stored(last int, b ...byte) packer {
	p.kind(last, 0)
	p.Align()
	p.numbers(16, len(b), 65535-len(b))
	p.Raw(b)
	return p
}

// fixed writes a fixed block, without its end.
func (p packer) fixed(last int, list ...step) packer {
	p.kind(last, 1)
	first, other := inflate.Fixed()
	p.steps(first, other, list...)
	return p
}

// told writes a told block, without its end.
func (p packer) told(last int, first, other []int, list ...step) packer {
	items := lens.Pack(slices.Concat(first, other))
	p.toldBy(last, len(first)-257, len(other)-1, items)
	p.steps(first, other, list...)
	return p
}

// toldBy writes the beginning of a told block, up to its items.
func (p packer) toldBy(last, l, d int, items []lens.Item) packer {
	own := ownFor(items)
	p.toldHead(last, l, d, own)
	p.items(own, items...)
	return p
}

// ownFor: lengths for the Syms of items, and for two more, so that there are two.
func ownFor(items []lens.Item) []int {
	counts := make([]int, 19)
	counts[0], counts[18] = 1, 1
	for _, x := range items {
		counts[x.Sym]++
	}
	own, _ := lens.Build(counts, 7)
	return own
}

// toldHead writes the beginning of a told block, up to the lengths of the code
// for its items.
func (p packer) toldHead(last, l, d int, own []int) packer {
	p.kind(last, 2)
	p.numbers(5, l, d)
	n := 19
	for n > 4 && own[ownOrder()[n-1]] == 0 {
		n--
	}
	p.numbers(4, n-4)
	for _, sym := range ownOrder()[:n] {
		p.numbers(3, own[sym])
	}
	return p
}

// ownOrder is the order of the lengths of the code for items.
func ownOrder() []int {
	return []int{16, 17, 18, 0, 8, 7, 9, 6, 10, 5, 11, 4, 12, 3, 13, 2, 14, 1, 15}
}

// items writes items by a code of lengths.
func (p packer) items(own []int, list ...lens.Item) packer {
	c, _ := huff.New(own)
	for _, x := range list {
		c.Put(p.Writer, x.Sym)
		p.numbers(map[int]int{16: 2, 17: 3, 18: 7}[x.Sym], x.Extra)
	}
	return p
}

// steps writes symbols by the codes of lengths.
func (p packer) steps(first, other []int, list ...step) packer {
	a, _ := huff.New(first)
	b, _ := huff.New(other)
	for _, s := range list {
		a.Put(p.Writer, s.sym)
		if _, extra, ok := inflate.Length(s.sym); ok {
			p.numbers(extra, s.extra)
			b.Put(p.Writer, s.far)
			_, extra, _ := inflate.Distance(s.far)
			p.numbers(extra, s.farExtra)
		}
	}
	return p
}

// bytesAnd: the steps of a text's bytes, and those behind them.
func bytesAnd(text string, behind ...step) []step {
	var list []step
	for _, x := range []byte(text) {
		list = append(list, step{sym: int(x)})
	}
	return append(list, behind...)
}

// shifted writes a fixed block of so many bytes of nine bits each, 255: what is
// behind it begins so many bits later within its byte.
func shifted(n int) packer {
	p := newPacker()
	return p.fixed(0, append(slices.Repeat([]step{{sym: 255}}, n), end)...)
}

// lengthsOf: n lengths, 0 but for those that pairs of a symbol and a length tell.
func lengthsOf(n int, pairs ...int) []int {
	lengths := make([]int, n)
	for i := 0; i < len(pairs); i += 2 {
		lengths[pairs[i]] = pairs[i+1]
	}
	return lengths
}

// numbers are numbers in no order, the same ones each time.
type numbers struct{ x uint32 }

func (s *numbers) below(n int) int {
	s.x = s.x*1664525 + 1013904223
	return int(s.x>>8) % n
}

// lengths: n lengths, complete, of the symbols that must have one and some others.
func (s *numbers) lengths(n int, must ...int) []int {
	counts := make([]int, n)
	for _, sym := range must {
		counts[sym] = 1 + s.below(50)
	}
	for range s.below(n) {
		counts[s.below(n)] = 1 + s.below(1<<s.below(18))
	}
	lengths, _ := lens.Build(counts, 9+s.below(7))
	return lengths
}

// told writes a told block of any codes, and of any steps that they have, of
// which none goes back farther than there are bytes; it answers how many there are then.
func (s *numbers) told(p packer, last, have int) int {
	first, other := s.lengths(257+s.below(30), 256), s.lengths(1+s.below(30), 0)
	var list []step
	for range s.below(60) {
		x := step{sym: s.below(len(first)), far: s.below(len(other))}
		if first[x.sym] == 0 || x.sym == 256 {
			continue
		}
		base, extra, ok := inflate.Length(x.sym)
		if !ok {
			list = append(list, x)
			have++
			continue
		}
		x.extra = s.below(1 << extra)
		farBase, farExtra, _ := inflate.Distance(x.far)
		x.farExtra = s.below(1 << farExtra)
		if other[x.far] > 0 && farBase+x.farExtra <= have {
			list = append(list, x)
			have += base + x.extra
		}
	}
	p.told(last, first, other, append(list, end)...)
	return have
}
