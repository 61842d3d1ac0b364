package deflate_test

import (
	"slices"

	"etui/bits"
	"etui/huff"
	"etui/inflate"
	"etui/lens"
)

// begun is a block: its kind, and how many bytes are told ahead of it.
type begun struct{ kind, at int }

// looker reads blocks that are right ones.
type looker struct {
	*bits.Reader
	out []byte
}

// blocksOf: the blocks of packed bytes, and what they tell.
func blocksOf(p []byte) ([]begun, []byte) {
	r := &looker{Reader: bits.NewReader(p)}
	var list []begun
	for last := false; !last && r.Left() > 0; {
		last = r.number(1) == 1
		x := begun{kind: r.number(2), at: len(r.out)}
		list = append(list, x)
		switch x.kind {
		case 0:
			r.stored()
		case 1:
			first, other := inflate.Fixed()
			r.symbols(first, other)
		case 2:
			r.symbols(r.told())
		}
	}
	return list, r.out
}

func (r *looker) number(n int) int {
	v, _ := r.Bits(n)
	return int(v)
}

func (r *looker) stored() {
	r.Align()
	n := r.number(16)
	r.number(16)
	b, _ := r.Bytes(n)
	r.out = append(r.out, b...)
}

// told: the lengths of the two codes of a told block.
func (r *looker) told() (first, other []int) {
	l, d, c := r.number(5), r.number(5), r.number(4)
	own := make([]int, 19)
	for i, sym := range []int{16, 17, 18, 0, 8, 7, 9, 6, 10, 5, 11, 4, 12, 3, 13, 2, 14, 1, 15} {
		if i < c+4 {
			own[sym] = r.number(3)
		}
	}
	code, _ := huff.New(own)
	var items []lens.Item
	var row []int
	for len(row) < l+257+d+1 {
		sym, _ := code.Next(r.Reader)
		items = append(items, lens.Item{Sym: sym, Extra: r.number(map[int]int{16: 2, 17: 3, 18: 7}[sym])})
		row, _ = lens.Unpack(items)
	}
	return row[:l+257], row[l+257:]
}

func (r *looker) symbols(first, other []int) {
	a, _ := huff.New(first)
	b, _ := huff.New(other)
	for {
		sym, e := a.Next(r.Reader)
		if e != 0 || sym == 256 {
			return
		}
		if sym < 256 {
			r.out = append(r.out, byte(sym))
			continue
		}
		base, extra, _ := inflate.Length(sym)
		n := base + r.number(extra)
		far, _ := b.Next(r.Reader)
		base, extra, _ = inflate.Distance(far)
		dist := base + r.number(extra)
		for row := r.out[len(r.out)-dist:]; n > 0; n -= len(row) {
			row = slices.Clone(row[:min(n, len(row))])
			r.out = append(r.out, row...)
		}
	}
}
