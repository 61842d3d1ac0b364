package zipr_test

import (
	"bytes"
	"encoding/binary"
	"hash/crc32"
	"slices"
	"strings"

	"etui/deflate"
)

// Signs that stand in archives.
const (
	headSign = "PK\x03\x04"
	rowSign  = "PK\x01\x02"
	endSign  = "PK\x05\x06"
	sumsSign = "PK\x07\x08"
)

// Bits of flags.
const (
	isBehind = 8
	isUTF    = 2048
)

// file is an entry that is laid as told.
type file struct {
	name                        string
	data                        string // as it stands
	flags, method               int
	sum                         uint32
	plain                       int
	headExtra, rowExtra, remark string
	behind                      string
	blank                       bool // the head has noughts for the sums
}

// laid is an archive, and where its heads, its rows and its end begin.
type laid struct {
	b           []byte
	heads, rows []int
	end         int
}

func u16(list ...int) string {
	var b []byte
	for _, n := range list {
		b = binary.LittleEndian.AppendUint16(b, uint16(n))
	}
	return string(b)
}

func u32(list ...int) string {
	var b []byte
	for _, n := range list {
		b = binary.LittleEndian.AppendUint32(b, uint32(n))
	}
	return string(b)
}

func sumOf(data string) uint32 { return crc32.ChecksumIEEE([]byte(data)) }

func stored(name, data string) file {
	return file{name: name, data: data, sum: sumOf(data), plain: len(data)}
}

func packed(name, data string) file {
	p := deflate.Deflate([]byte(data), 6)
	return file{name: name, data: string(p), method: 8, sum: sumOf(data), plain: len(data)}
}

// flagged: a file with bits of flags set.
func (f file) flagged(bits int) file {
	f.flags |= bits
	return f
}

// late: a file whose sums stand behind its bytes, with or without their sign.
func (f file) late(sign string) file {
	f.flags |= isBehind
	f.behind = sign + f.sums()
	f.blank = true
	return f
}

func (f file) extras(head, row string) file {
	f.headExtra, f.rowExtra = head, row
	return f
}

func (f file) sums() string { return u32(int(f.sum), len(f.data), f.plain) }

// head: the head, the bytes, and what is behind them.
func (f file) head() string {
	told := f.sums()
	if f.blank {
		told = strings.Repeat("\x00", 12)
	}
	return headSign + u16(20, f.flags, f.method, 1, 2) + told + u16(len(f.name), len(f.headExtra)) + f.name + f.headExtra + f.data + f.behind
}

func (f file) row(at int) string {
	return rowSign + u16(819, 20, f.flags, f.method, 11, 12) + f.sums() + u16(len(f.name), len(f.rowExtra), len(f.remark), 0, 5) + u32(6, at) + f.name + f.rowExtra + f.remark
}

func endOf(rows, size, from int, remark string) string {
	return endSign + u16(0, 0, rows, rows) + u32(size, from) + u16(len(remark)) + remark
}

// layBehind lays an archive behind other bytes, with a remark.
func layBehind(ahead, remark string, list ...file) laid {
	x := laid{b: []byte(ahead)}
	for _, f := range list {
		x.heads = append(x.heads, len(x.b))
		x.b = append(x.b, f.head()...)
	}
	from := len(x.b)
	for i, f := range list {
		x.rows = append(x.rows, len(x.b))
		x.b = append(x.b, f.row(x.heads[i])...)
	}
	x.end = len(x.b)
	x.b = append(x.b, endOf(len(list), x.end-from, from, remark)...)
	return x
}

func lay(list ...file) laid { return layBehind("", "", list...) }

// layParts lays rows, and an end, behind heads that are given as they stand.
func layParts(heads string, rows ...string) []byte {
	all := strings.Join(rows, "")
	return []byte(heads + all + endOf(len(rows), len(all), len(heads), ""))
}

// changed: the bytes with others at a place.
func (x laid) changed(at int, to string) []byte {
	b := bytes.Clone(x.b)
	copy(b[at:], to)
	return b
}

// without: the bytes with n of them taken out at a place.
func without(b []byte, at, n int) []byte { return slices.Concat(b[:at], b[at+n:]) }

// with: the bytes with others put in at a place.
func with(b []byte, at int, more string) []byte { return slices.Concat(b[:at], []byte(more), b[at:]) }

// numbers are numbers in no order, the same ones each time.
type numbers struct{ x uint32 }

func (s *numbers) below(n int) int {
	s.x = s.x*1664525 + 1013904223
	return int(s.x>>8) % n
}
