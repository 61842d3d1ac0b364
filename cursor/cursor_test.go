package cursor_test

import (
	"bytes"
	"math"
	"slices"
	"testing"

	"etui/cursor"
)

// The kinds, by short names.
const (
	short = cursor.KShort
	long  = cursor.KLong
	row   = cursor.KBytes
	rest  = cursor.KRest
)

// farPlaces: numbers that are no place, and no length, in few bytes.
var farPlaces = []int{-1, -2, -4, -100, 100, 1 << 31, 1 << 32, math.MaxInt - 4, math.MaxInt - 1, math.MaxInt, math.MinInt, math.MinInt + 1, math.MinInt + 4}

// sample: bytes in which no two neighbours are alike.
func sample(n int) []byte {
	b := make([]byte, n)
	x := uint32(12345)
	for i := range b {
		x = x*1664525 + 1013904223
		b[i] = byte(x >> 24)
	}
	return b
}

// numberAt: the number of so many bytes at a place, the lowest byte first.
func numberAt(b []byte, at, size int) int {
	n := 0
	for i := size - 1; i >= 0; i-- {
		n = n*256 + int(b[at+i])
	}
	return n
}

func num(kind cursor.Kind, n int) cursor.Field { return cursor.Field{Kind: kind, N: n} }

func text(kind cursor.Kind, s string) cursor.Field {
	return cursor.Field{Kind: kind, B: []byte(s)}
}

func sameField(f, g cursor.Field) bool {
	return f.Kind == g.Kind && f.N == g.N && bytes.Equal(f.B, g.B)
}

// wantRead asks what Read answers: these fields, and the place behind.
func wantRead(t *testing.T, b []byte, at int, kinds []cursor.Kind, want []cursor.Field, behind int) {
	t.Helper()
	got, next, ok := cursor.Read(b, at, kinds...)
	if !ok || next != behind || !slices.EqualFunc(got, want, sameField) {
		t.Errorf("Read(% x, %d, %v): %v %d %v, want %v %d", b, at, kinds, got, next, ok, want, behind)
	}
}

// wantNoRead asks that Read answers nothing.
func wantNoRead(t *testing.T, b []byte, at int, kinds ...cursor.Kind) {
	t.Helper()
	if got, next, ok := cursor.Read(b, at, kinds...); ok || next != 0 || len(got) != 0 {
		t.Errorf("Read(% x, %d, %v): %v %d %v", b, at, kinds, got, next, ok)
	}
}

func wantBytes(t *testing.T, got, want []byte) {
	t.Helper()
	if !bytes.Equal(got, want) {
		t.Errorf("got % x, want % x", got, want)
	}
}

// P3.1

func TestNumbersAtEveryPlace(t *testing.T) {
	for size := range 9 {
		b := sample(size)
		for at := -3; at <= size+3; at++ {
			n, ok := cursor.U16(b, at)
			if at < 0 || at+2 > size {
				if n != 0 || ok {
					t.Errorf("U16 at %d of %d: %x %v", at, size, n, ok)
				}
			} else if n != numberAt(b, at, 2) || !ok {
				t.Errorf("U16 at %d of %d: %x %v", at, size, n, ok)
			}
			n, ok = cursor.U32(b, at)
			if at < 0 || at+4 > size {
				if n != 0 || ok {
					t.Errorf("U32 at %d of %d: %x %v", at, size, n, ok)
				}
			} else if n != numberAt(b, at, 4) || !ok {
				t.Errorf("U32 at %d of %d: %x %v", at, size, n, ok)
			}
		}
	}
}

func TestGreatNumbers(t *testing.T) {
	ones := []byte{255, 255, 255, 255}
	if n, ok := cursor.U16(ones, 2); n != 65535 || !ok {
		t.Errorf("%d %v", n, ok)
	}
	if n, ok := cursor.U32(ones, 0); n != 4294967295 || !ok {
		t.Errorf("%d %v", n, ok)
	}
	if n, ok := cursor.U32([]byte{0, 0, 0, 128}, 0); n != 2147483648 || !ok {
		t.Errorf("%d %v", n, ok)
	}
}

func TestNumbersFarOff(t *testing.T) {
	for _, b := range [][]byte{nil, {}, {1}, sample(9)} {
		for _, at := range farPlaces {
			if n, ok := cursor.U16(b, at); n != 0 || ok {
				t.Errorf("U16 at %d: %d %v", at, n, ok)
			}
			if n, ok := cursor.U32(b, at); n != 0 || ok {
				t.Errorf("U32 at %d: %d %v", at, n, ok)
			}
		}
	}
}

func TestCutAtEveryPlace(t *testing.T) {
	for size := range 6 {
		b := sample(size)
		for at := -2; at <= size+2; at++ {
			for n := -2; n <= size+2; n++ {
				x, ok := cursor.Cut(b, at, n)
				if at < 0 || n < 0 || at+n > size {
					if len(x) != 0 || ok {
						t.Errorf("Cut %d from %d on, of %d: % x %v", n, at, size, x, ok)
					}
					continue
				}
				if !ok {
					t.Errorf("Cut %d from %d on, of %d: none", n, at, size)
				}
				wantBytes(t, x, b[at:at+n])
			}
		}
	}
}

func TestCutFarOff(t *testing.T) {
	b := sample(9)
	for _, far := range farPlaces {
		for near := range 11 {
			if x, ok := cursor.Cut(b, far, near); len(x) != 0 || ok {
				t.Errorf("Cut %d from %d on: % x %v", near, far, x, ok)
			}
			if x, ok := cursor.Cut(b, near, far); len(x) != 0 || ok {
				t.Errorf("Cut %d from %d on: % x %v", far, near, x, ok)
			}
		}
		for _, n := range farPlaces {
			if x, ok := cursor.Cut(b, far, n); len(x) != 0 || ok {
				t.Errorf("Cut %d from %d on: % x %v", n, far, x, ok)
			}
		}
	}
}

// signPlaces: all places of a sign, in order.
func signPlaces(b []byte, sign uint32) []int {
	var places []int
	for at := 0; at+4 <= len(b); at++ {
		if uint32(numberAt(b, at, 4)) == sign {
			places = append(places, at)
		}
	}
	return places
}

// wantSigns asks for the places of a sign, from every place on.
func wantSigns(t *testing.T, b []byte, sign uint32) {
	t.Helper()
	places := signPlaces(b, sign)
	last := -1
	if len(places) > 0 {
		last = places[len(places)-1]
	}
	if x := cursor.Last(b, sign); x != last {
		t.Errorf("Last of %08x in % x: %d, want %d", sign, b, x, last)
	}
	for from := -3; from <= len(b)+3; from++ {
		first := -1
		if i := slices.IndexFunc(places, func(at int) bool { return at >= from }); i >= 0 {
			first = places[i]
		}
		if x := cursor.First(b, from, sign); x != first {
			t.Errorf("First of %08x from %d on, in % x: %d, want %d", sign, from, b, x, first)
		}
	}
}

func TestSigns(t *testing.T) {
	end := []byte{0x50, 0x4b, 5, 6}
	for ahead := range 6 {
		for behind := range 6 {
			b := slices.Concat(sample(ahead), end, sample(behind))
			wantSigns(t, b, 0x06054b50)
			wantSigns(t, b, 0x504b0506)
			wantSigns(t, slices.Concat(b, end), 0x06054b50)
			wantSigns(t, slices.Concat(b, end[:3]), 0x06054b50)
		}
	}
}

func TestSignsThatOverlap(t *testing.T) {
	for size := range 12 {
		for _, sign := range []uint32{0, 0xffffffff, 0x02010201, 0x01020102, 1, 1 << 24} {
			wantSigns(t, make([]byte, size), sign)
			wantSigns(t, bytes.Repeat([]byte{255}, size), sign)
			wantSigns(t, bytes.Repeat([]byte{1, 2}, size), sign)
		}
	}
}

// A sign's bytes that stand once in many, behind many that begin as it does.
func TestSignFarBehind(t *testing.T) {
	b := make([]byte, 1<<20)
	b[len(b)-10] = 1
	if x := cursor.First(b, 0, 1<<24); x != len(b)-13 {
		t.Errorf("First: %d", x)
	}
	if x := cursor.First(b, len(b)-12, 1<<24); x != -1 {
		t.Errorf("First: %d", x)
	}
	if x := cursor.Last(b, 1); x != len(b)-10 {
		t.Errorf("Last: %d", x)
	}
	if x := cursor.Last(b[:len(b)-8], 1); x != -1 {
		t.Errorf("Last: %d", x)
	}
}

func TestSignsFarOff(t *testing.T) {
	for _, b := range [][]byte{nil, {}, {0, 0, 0}, make([]byte, 9)} {
		for _, from := range farPlaces {
			want := -1
			if from < 0 && len(b) >= 4 {
				want = 0
			}
			if x := cursor.First(b, from, 0); x != want {
				t.Errorf("First from %d on, of %d bytes: %d, want %d", from, len(b), x, want)
			}
		}
	}
	if x := cursor.Last(nil, 0); x != -1 {
		t.Errorf("Last: %d", x)
	}
}

// P3.2

func TestReadTheExample(t *testing.T) {
	b := []byte{2, 0, 1, 0, 65, 66, 67}
	want := []cursor.Field{num(short, 2), num(short, 1), text(row, "AB"), text(row, "C")}
	wantRead(t, b, 0, []cursor.Kind{short, short, row, row}, want, 7)
}

func TestKindsCounted(t *testing.T) {
	if short != 0 || long != 1 || row != 2 || rest != 3 {
		t.Error(short, long, row, rest)
	}
}

func TestReadEachKind(t *testing.T) {
	b := []byte{9, 3, 2, 1, 0, 'a', 'b', 'c', 'd'}
	wantRead(t, b, 1, []cursor.Kind{short}, []cursor.Field{num(short, 0x203)}, 3)
	wantRead(t, b, 1, []cursor.Kind{long}, []cursor.Field{num(long, 0x10203)}, 5)
	wantRead(t, b, 5, []cursor.Kind{rest}, []cursor.Field{text(rest, "abcd")}, 9)
	wantRead(t, b, 3, []cursor.Kind{short, row}, []cursor.Field{num(short, 1), text(row, "a")}, 6)
	wantRead(t, b, 0, []cursor.Kind{rest}, []cursor.Field{{Kind: rest, B: b}}, 9)
	wantRead(t, []byte{255, 255, 255, 255, 255, 255}, 0, []cursor.Kind{long, short}, []cursor.Field{num(long, 4294967295), num(short, 65535)}, 6)
	wantRead(t, []byte{3, 0, 0, 0, 'a', 'b', 'c', 'd'}, 0, []cursor.Kind{long, row}, []cursor.Field{num(long, 3), text(row, "abc")}, 7)
}

func TestReadNoKinds(t *testing.T) {
	for _, b := range [][]byte{nil, {}, sample(3)} {
		for at := range len(b) + 1 {
			wantRead(t, b, at, nil, nil, at)
			wantRead(t, b, at, []cursor.Kind{}, nil, at)
		}
	}
}

func TestReadOutside(t *testing.T) {
	all := [][]cursor.Kind{nil, {rest}, {short}, {long}, {row}, {short, row}}
	for _, b := range [][]byte{nil, {}, make([]byte, 9)} {
		for _, kinds := range all {
			for _, at := range farPlaces {
				wantNoRead(t, b, at, kinds...)
			}
			wantNoRead(t, b, len(b)+1, kinds...)
		}
	}
}

func TestReadRestAtTheEnd(t *testing.T) {
	none := []cursor.Field{{Kind: rest}}
	wantRead(t, nil, 0, []cursor.Kind{rest}, none, 0)
	wantRead(t, sample(4), 4, []cursor.Kind{rest}, none, 4)
	two := []cursor.Field{text(rest, "ab"), {Kind: rest}}
	wantRead(t, []byte("ab"), 0, []cursor.Kind{rest, rest}, two, 2)
	wantNoRead(t, []byte("abcdefgh"), 0, rest, short)
	wantNoRead(t, []byte("abcdefgh"), 0, rest, long)
}

func TestReadNotAllThere(t *testing.T) {
	whole := []byte{1, 0, 2, 0, 3, 0, 0, 0, 'a', 'b', 'b', 'c', 'c', 'c', 7, 7, 9}
	kinds := []cursor.Kind{short, short, long, row, row, row, short}
	want := []cursor.Field{num(short, 1), num(short, 2), num(long, 3), text(row, "a"), text(row, "bb"), text(row, "ccc"), num(short, 0x707)}
	for size := range len(whole) + 1 {
		if size < 16 {
			wantNoRead(t, whole[:size], 0, kinds...)
			continue
		}
		wantRead(t, whole[:size], 0, kinds, want, 16)
	}
}

func TestReadRowsTooLong(t *testing.T) {
	wantNoRead(t, []byte{255, 255, 255, 255, 1}, 0, long, row)
	wantNoRead(t, []byte{0, 0, 0, 128, 1}, 0, long, row)
	wantNoRead(t, []byte{2, 0, 1}, 0, short, row)
	wantNoRead(t, []byte{2, 0, 0, 0, 1, 2, 3}, 0, short, short, row, row, row)
}

func TestReadLongRows(t *testing.T) {
	for _, n := range []int{255, 256, 65535, 65536, 70000} {
		want := []cursor.Field{num(long, n), {Kind: row, B: sample(n)}, num(short, 513)}
		b := cursor.Write(want...)
		wantRead(t, b, 0, []cursor.Kind{long, row, short}, want, n+6)
		wantNoRead(t, b[:n+3], 0, long, row)
	}
}

func TestReadRowsOfNoBytes(t *testing.T) {
	want := []cursor.Field{num(short, 0), num(long, 0), {Kind: row}, {Kind: row}}
	wantRead(t, make([]byte, 6), 0, []cursor.Kind{short, long, row, row}, want, 6)
}

// Other numbers may stand ahead of those of the rows, and others behind the rows.
func TestReadRowsAndOthers(t *testing.T) {
	b := []byte{9, 9, 1, 0, 2, 0, 0, 0, 'a', 'b', 'c', 'd'}
	wantRead(t, b, 0, []cursor.Kind{short, short, long, row, row, rest},
		[]cursor.Field{num(short, 0x909), num(short, 1), num(long, 2), text(row, "a"), text(row, "bc"), text(rest, "d")}, 12)
	b = []byte{1, 0, 2, 0, 3, 0, 'x', 'x', 'x'}
	wantRead(t, b, 0, []cursor.Kind{short, short, short, row},
		[]cursor.Field{num(short, 1), num(short, 2), num(short, 3), text(row, "xxx")}, 9)
	b = []byte{1, 0, 2, 0, 'a', 1, 0, 'b', 'c'}
	wantRead(t, b, 0, []cursor.Kind{short, short, row, row, rest},
		[]cursor.Field{num(short, 1), num(short, 2), text(row, "a"), {Kind: row, B: []byte{1, 0}}, text(rest, "bc")}, 9)
}

// A row's number is as many fields ahead as there are rows in all, not the next
// number ahead of it, and not one that stands in line with the rows.
func TestReadNumbersAmongRows(t *testing.T) {
	b := []byte{1, 0, 2, 0, 0, 0, 3, 0, 'a', 'a', 'b', 'b', 'b', 'c'}
	wantRead(t, b, 0, []cursor.Kind{short, short, short, short, row, row, row},
		[]cursor.Field{num(short, 1), num(short, 2), num(short, 0), num(short, 3), text(row, "aa"), {Kind: row}, text(row, "bbb")}, 13)
	b = []byte{1, 0, 0, 0, 'a', 1, 0, 'b', 'c'}
	wantNoRead(t, b, 0, short, short, row, short, row)
	b = []byte{1, 0, 'a', 1, 0, 'b', 'c', 'd'}
	wantNoRead(t, b, 0, short, row, short, row)
	b = []byte{1, 0, 2, 0, 'a', 1, 0, 'b', 0, 0}
	wantRead(t, b, 0, []cursor.Kind{short, short, row, row, short},
		[]cursor.Field{num(short, 1), num(short, 2), text(row, "a"), {Kind: row, B: []byte{1, 0}}, num(short, 'b')}, 9)
}

func TestReadRowsWithoutNumber(t *testing.T) {
	b := []byte{1, 0, 1, 0, 0, 0, 0, 0, 0, 0}
	for _, kinds := range [][]cursor.Kind{
		{row}, {row, short}, {rest, row}, {short, rest, row}, {short, row, row}, {short, row, short, row},
		{short, short, rest, row, row}, {row, row, short, short}, {short, short, short, row, row, row, row},
		{long, row, row}, {short, row, rest, row},
	} {
		wantNoRead(t, b, 0, kinds...)
	}
	// A row behind counts for those ahead of it, too.
	wantNoRead(t, b, 0, short, row, rest, row)
	wantRead(t, b, 0, []cursor.Kind{short, row, short}, []cursor.Field{num(short, 1), {Kind: row, B: []byte{1}}, num(short, 0)}, 5)
}

func TestReadKindsThatAreNone(t *testing.T) {
	b := make([]byte, 20)
	for _, kind := range []cursor.Kind{-1, 4, 5, 255, 256, 1 << 32, math.MaxInt, math.MinInt} {
		wantNoRead(t, b, 0, kind)
		wantNoRead(t, b, 20, kind)
		wantNoRead(t, nil, 0, kind)
		wantNoRead(t, b, 0, short, kind)
		wantNoRead(t, b, 0, kind, short)
		wantNoRead(t, b, 0, short, row, rest, kind)
		wantNoRead(t, b, 0, kind, row)
	}
}

// slowRead: what Read answers, as the chapter tells it.
func slowRead(b []byte, at int, kinds []cursor.Kind) ([]cursor.Field, int, bool) {
	rows := 0
	for _, kind := range kinds {
		if kind == row {
			rows++
		}
	}
	var list []cursor.Field
	for i, kind := range kinds {
		f := cursor.Field{Kind: kind}
		n := 0
		switch kind {
		case short:
			n = 2
		case long:
			n = 4
		case rest:
			n = len(b) - at
		case row:
			if i < rows || list[i-rows].Kind != short && list[i-rows].Kind != long {
				return nil, 0, false
			}
			n = list[i-rows].N
		}
		if at+n > len(b) {
			return nil, 0, false
		}
		if kind == short || kind == long {
			f.N = numberAt(b, at, n)
		} else {
			f.B = b[at : at+n]
		}
		list = append(list, f)
		at += n
	}
	return list, at, true
}

// kindsOf: up to six kinds, by a number's digits.
func kindsOf(number int) []cursor.Kind {
	var kinds []cursor.Kind
	for ; number > 0; number /= 5 {
		if number%5 == 0 {
			return nil
		}
		kinds = append(kinds, cursor.Kind(number%5-1))
	}
	return kinds
}

func TestReadAllKinds(t *testing.T) {
	many := [][]byte{
		{0, 0, 0, 0, 0, 0, 0, 0, 0, 0, 0, 0, 0, 0, 0, 0},
		{1, 0, 2, 0, 0, 0, 1, 0, 1, 0, 0, 0, 1, 0, 0, 0, 1, 0, 3, 0},
		{1, 0, 1, 0, 1, 0, 1, 0, 1, 0, 1, 0, 1},
		{2, 0, 0, 0, 1, 0, 0, 0, 3, 0, 0, 0, 'a', 'b', 'c', 'd', 'e', 'f', 'g', 'h'},
		{0, 1, 0, 2, 0, 0, 3},
	}
	read := 0
	for number := range 5 * 5 * 5 * 5 * 5 * 5 {
		kinds := kindsOf(number)
		for _, b := range many {
			for _, at := range []int{0, 1, len(b) - 2} {
				if want, behind, ok := slowRead(b, at, kinds); ok {
					wantRead(t, b, at, kinds, want, behind)
					read++
				} else {
					wantNoRead(t, b, at, kinds...)
				}
			}
		}
	}
	if read < 1000 {
		t.Errorf("only %d are read", read)
	}
}

func TestWriteEachKind(t *testing.T) {
	for _, c := range []struct {
		f    cursor.Field
		want []byte
	}{
		{num(short, 0x1234), []byte{0x34, 0x12}}, {num(short, 0), []byte{0, 0}}, {num(short, 65535), []byte{255, 255}},
		{num(short, 65536), []byte{0, 0}}, {num(short, -1), []byte{255, 255}}, {num(short, -65535), []byte{1, 0}},
		{num(short, math.MinInt), []byte{0, 0}}, {num(short, math.MaxInt), []byte{255, 255}},
		{num(long, 0x12345678), []byte{0x78, 0x56, 0x34, 0x12}}, {num(long, 0), []byte{0, 0, 0, 0}},
		{num(long, 4294967295), []byte{255, 255, 255, 255}}, {num(long, 1<<32), []byte{0, 0, 0, 0}},
		{num(long, 1<<32+7), []byte{7, 0, 0, 0}}, {num(long, -2), []byte{254, 255, 255, 255}},
		{num(long, math.MinInt), []byte{0, 0, 0, 0}}, {num(long, math.MinInt+1), []byte{1, 0, 0, 0}},
		{text(row, "abc"), []byte("abc")}, {text(rest, "abc"), []byte("abc")}, {num(row, 3), nil}, {num(rest, 3), nil},
		{num(4, 3), nil}, {text(4, "abc"), nil}, {text(-1, "abc"), nil}, {text(math.MinInt, "abc"), nil}, {text(math.MaxInt, "abc"), nil},
		{text(256, "abc"), nil}, {cursor.Field{Kind: short, N: 5, B: []byte("abc")}, []byte{5, 0}},
		{cursor.Field{Kind: long, N: 5, B: []byte("abc")}, []byte{5, 0, 0, 0}}, {cursor.Field{Kind: row, N: 5, B: []byte("abc")}, []byte("abc")},
	} {
		wantBytes(t, cursor.Write(c.f), c.want)
		wantBytes(t, cursor.Write(text(rest, "<"), c.f, text(row, ">")), slices.Concat([]byte("<"), c.want, []byte(">")))
	}
}

func TestWriteNothing(t *testing.T) {
	wantBytes(t, cursor.Write(), nil)
	wantBytes(t, cursor.Write([]cursor.Field{}...), nil)
	wantBytes(t, cursor.Write(cursor.Field{}), []byte{0, 0})
}

func TestWriteInOrder(t *testing.T) {
	got := cursor.Write(num(long, 0x06054b50), num(short, 1), text(row, "A"), text(7, "no"), text(rest, "BC"), num(short, 2))
	wantBytes(t, got, []byte{0x50, 0x4b, 5, 6, 1, 0, 'A', 'B', 'C', 2, 0})
}

func TestWriteAndRead(t *testing.T) {
	list := []cursor.Field{num(long, 0x04034b50), num(short, 20), num(long, 4294967295), num(short, 300), num(short, 0), num(long, 2),
		{Kind: row, B: sample(300)}, {Kind: row}, text(row, "ab"), text(rest, "what is left")}
	var kinds []cursor.Kind
	for _, f := range list {
		kinds = append(kinds, f.Kind)
	}
	b := cursor.Write(list...)
	wantRead(t, b, 0, kinds, list, len(b))
	wantRead(t, slices.Concat(sample(13), b), 13, kinds, list, len(b)+13)
}

// P3.3

func TestCallsLeaveTheBytes(t *testing.T) {
	all := []byte{8, 8, 8, 1, 0, 2, 0, 'a', 'b', 'c', 'd', 9, 9, 9}
	kept := bytes.Clone(all)
	b := all[3:11]
	kinds := []cursor.Kind{short, short, row, row, rest, 77}
	cursor.Read(b, 0, kinds[:5]...)
	cursor.Read(b, 0, kinds...)
	cursor.U16(b, 1)
	cursor.U32(b, 1)
	cursor.Cut(b, 1, 4)
	cursor.Last(b, 0x00020001)
	cursor.First(b, 1, 0x00020001)
	wantBytes(t, all, kept)
	if !slices.Equal(kinds, []cursor.Kind{short, short, row, row, rest, 77}) {
		t.Errorf("kinds: %v", kinds)
	}
	x := cursor.Write(cursor.Field{Kind: row, B: b}, cursor.Field{Kind: rest, B: b[:2]}, num(long, 7))
	x[0] = 5
	_ = append(x, 6, 6, 6)
	wantBytes(t, all, kept)
}

func TestWriteLeavesTheList(t *testing.T) {
	list := []cursor.Field{num(short, 1), text(row, "ab"), num(9, 1), text(rest, "c")}
	cursor.Write(list[:2]...)
	want := []cursor.Field{num(short, 1), text(row, "ab"), num(9, 1), text(rest, "c")}
	if !slices.EqualFunc(list, want, sameField) {
		t.Errorf("%v", list)
	}
}

func TestAnswersAreNewMemory(t *testing.T) {
	b := []byte{2, 0, 1, 0, 'a', 'b', 'c', 'd', 'e'}
	kept := bytes.Clone(b)
	kinds := []cursor.Kind{short, short, row, row, rest, rest}
	list, _, _ := cursor.Read(b, 0, kinds...)
	again, _, _ := cursor.Read(b, 0, kinds...)
	cut, _ := cursor.Cut(b, 4, 2)
	want := []cursor.Field{num(short, 2), num(short, 1), text(row, "ab"), text(row, "c"), text(rest, "de"), {Kind: rest}}
	// Neither what is written to an answer, nor what is put in its spare room, is
	// seen anywhere else.
	for i, f := range list {
		for j := range f.B {
			f.B[j] = '!'
		}
		_ = append(f.B[:cap(f.B)], '?')
		spare := f.B[len(f.B):cap(f.B)]
		for j := range spare {
			spare[j] = '?'
		}
		if !slices.EqualFunc(list[i+1:], want[i+1:], sameField) {
			t.Fatalf("field %d: %v", i, list)
		}
	}
	spare := cut[len(cut):cap(cut)]
	for j := range spare {
		spare[j] = '?'
	}
	cut[0] = '!'
	wantBytes(t, b, kept)
	copy(b, "?????????")
	if !slices.EqualFunc(again, want, sameField) {
		t.Errorf("%v", again)
	}
	wantBytes(t, cut, []byte("!b"))
}

func TestWriteIsNewMemory(t *testing.T) {
	b := []byte("abc")
	x := cursor.Write(cursor.Field{Kind: rest, B: b})
	y := cursor.Write(cursor.Field{Kind: rest, B: b})
	x[0] = '!'
	wantBytes(t, b, []byte("abc"))
	b[1] = '?'
	wantBytes(t, y, []byte("abc"))
	wantBytes(t, x, []byte("!bc"))
}
