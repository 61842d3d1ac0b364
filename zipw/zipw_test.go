package zipw_test

import (
	"archive/zip"
	"bytes"
	"fmt"
	"io"
	"math"
	"slices"
	"strings"
	"testing"

	"etui/api"
	"etui/deflate"
	"etui/zipr"
	"etui/zipw"
)

var wide = zipr.Limits{Bytes: api.MaxBytes, Entries: api.MaxParts, Total: api.MaxBytes}

// farNumbers are levels that are far off.
var farNumbers = []int{-1, -2, -65535, -1 << 31, -1 << 32, math.MinInt, math.MinInt + 1, 10, 11, 1 << 31, 1 << 32, 1 << 62, math.MaxInt - 1, math.MaxInt}

// numbers are numbers in no order, the same ones each time.
type numbers struct{ x uint32 }

func (s *numbers) below(n int) int {
	s.x = s.x*1664525 + 1013904223
	return int(s.x>>8) % n
}

// anyBytes: n bytes, each one of so many.
func (s *numbers) anyBytes(n, kinds int) []byte {
	b := make([]byte, n)
	for i := range b {
		b[i] = byte(s.below(kinds))
	}
	return b
}

func item(name, data string, level int) zipw.Item {
	return zipw.Item{Name: name, Data: []byte(data), Level: level}
}

// named: items without bytes.
func named(names ...string) []zipw.Item {
	var list []zipw.Item
	for _, name := range names {
		list = append(list, zipw.Item{Name: name})
	}
	return list
}

// numbered: so many items without bytes.
func numbered(n int) []zipw.Item {
	var list []zipw.Item
	for i := range n {
		list = append(list, zipw.Item{Name: fmt.Sprint(i)})
	}
	return list
}

// someItems: items of all kinds.
func someItems() []zipw.Item {
	s := &numbers{11223}
	long := strings.Repeat("one and the other, ", 400)
	return []zipw.Item{
		item("mimetype", "application/zip", -1), item("[Content_Types].xml", long, 9), item("a/b.xml", long, 6), item("a/b", long, 0), item("stored", long, -1),
		item("dir/", "", 9), item("dir", "no folder", 1), item("é/日本.xml", long, 5), item("empty", "", 3), item("none/at/all/", "", -1), item("é", "e", -1), item("É", "E", 9),
		item("random", string(s.anyBytes(70000, 256)), 9), item("two", string(s.anyBytes(5000, 2)), 1), item(strings.Repeat("n", 255), "x", 2), item("a b/c;d=1%20", "!", 4),
		item("many", strings.Repeat("\x00", 200000), 9), item("quick", long, math.MaxInt), item("raw", long, math.MinInt),
	}
}

// wantFault asks Write and Size for an error, and for nothing beside it.
func wantFault(t *testing.T, list []zipw.Item, want api.Errno) {
	t.Helper()
	b, e := zipw.Write(list)
	n, ok := zipw.Size(list)
	if e != want || b != nil || ok || n != 0 {
		t.Errorf("%d items: %d bytes, errno %d, want %d; size %d, %v", len(list), len(b), e, want, n, ok)
	}
}

// wantWritten asks whether the calls answer what the chapter tells of items that are
// without a fault, and answers the archive.
func wantWritten(t *testing.T, list []zipw.Item) []byte {
	t.Helper()
	b, e := zipw.Write(list)
	if want := slowWrite(list); e != api.OK || string(b) != want {
		t.Fatalf("%d items: %d bytes, errno %d, want %d\n%.200q\n%.200q", len(list), len(b), e, len(want), b, want)
	}
	if n, ok := zipw.Size(list); !ok || n != len(b) {
		t.Errorf("size %d, %v, want %d", n, ok, len(b))
	}
	if n := zipw.Most(list); n != slowMost(list) || n < len(b) {
		t.Errorf("most %d of %d, want %d", n, len(b), slowMost(list))
	}
	wantReadBack(t, b, list)
	return b
}

// wantReadBack asks whether an archive is read as items.
func wantReadBack(t *testing.T, b []byte, list []zipw.Item) {
	t.Helper()
	entries, eRead := zipr.Read(b, wide)
	rows, eRows := zipr.Rows(b, wide)
	if eRead != api.OK || eRows != api.OK || len(entries) != len(list) || len(rows) != len(list) {
		t.Fatalf("errnos %d and %d, %d entries, %d rows, want %d", eRead, eRows, len(entries), len(rows), len(list))
	}
	for i, x := range list {
		y, r := entries[i], rows[i]
		if y.Name != x.Name || !bytes.Equal(y.Data, x.Data) || y.Extra != 0 || y.At != r.At {
			t.Errorf("%d: %q, %d bytes, extra %d at %d, want %q, %d bytes", i, y.Name, len(y.Data), y.Extra, y.At, x.Name, len(x.Data))
		}
		if r.Flags != slowFlags(x.Name) || r.Time != 0 || r.Date != 33 || r.Extra != 0 || len(r.Remark) != 0 || r.Method != y.Method {
			t.Errorf("%d: %v", i, r)
		}
	}
}

// wantSame asks whether Write answers what the chapter tells, and answers the error.
func wantSame(t *testing.T, list []zipw.Item) api.Errno {
	t.Helper()
	e := slowFault(list)
	if e == api.OK {
		wantWritten(t, list)
	} else {
		wantFault(t, list, e)
	}
	return e
}

// wantMethod asks how an item's bytes stand in an archive, and how many there are.
func wantMethod(t *testing.T, x zipw.Item, method, packed int) {
	t.Helper()
	list := []zipw.Item{item("ahead", "ahead", 9), x}
	rows, e := zipr.Rows(wantWritten(t, list), wide)
	if e != api.OK || rows[1].Method != method || rows[1].Packed != packed {
		t.Errorf("level %d, %d bytes: method %d, %d bytes, want %d, %d", x.Level, len(x.Data), rows[1].Method, rows[1].Packed, method, packed)
	}
}

// P10.1: the archive

func TestTheExample(t *testing.T) {
	end := "PK\x05\x06" + strings.Repeat("\x00", 18)
	for _, list := range [][]zipw.Item{nil, {}, someItems()[:0]} {
		if b := wantWritten(t, list); string(b) != end {
			t.Errorf("%q", b)
		}
		if n, ok := zipw.Size(list); n != 22 || !ok || zipw.Most(list) != 22 {
			t.Error(n, ok, zipw.Most(list))
		}
	}
}

func TestOneEntry(t *testing.T) {
	b := wantWritten(t, []zipw.Item{item("é/1", "123456789", -1)})
	head := "PK\x03\x04\x14\x00\x00\x08\x00\x00\x00\x00\x21\x00\x26\x39\xf4\xcb\x09\x00\x00\x00\x09\x00\x00\x00\x04\x00\x00\x00\xc3\xa9/1123456789"
	row := "PK\x01\x02\x14\x00\x14\x00\x00\x08\x00\x00\x00\x00\x21\x00\x26\x39\xf4\xcb\x09\x00\x00\x00\x09\x00\x00\x00\x04\x00" + strings.Repeat("\x00", 16) + "\xc3\xa9/1"
	end := "PK\x05\x06\x00\x00\x00\x00\x01\x00\x01\x00\x32\x00\x00\x00\x2b\x00\x00\x00\x00\x00"
	if string(b) != head+row+end {
		t.Errorf("%q", b)
	}
}

// What an ODF package begins with stands at its places.
func TestMimetypeFirst(t *testing.T) {
	media := "application/vnd.oasis.opendocument.text"
	b := wantWritten(t, []zipw.Item{item("mimetype", media, -1), item("content.xml", "<a/>", 9)})
	if string(b[30:38]) != "mimetype" || string(b[38:38+len(media)]) != media {
		t.Errorf("%q", b[:100])
	}
}

func TestSomeItems(t *testing.T) {
	list := someItems()
	for i := range list {
		wantWritten(t, list[i:i+1])
		wantWritten(t, list[:i])
		wantWritten(t, list[i:])
	}
	slices.Reverse(list)
	wantWritten(t, list)
}

func TestFlags(t *testing.T) {
	for name, want := range map[string]int{"a": 0, "~": 0, " ": 0, "\u0080": 2048, "é": 2048, "aé": 2048, "éa": 2048, "日本": 2048, "a/\U0001f600/b": 2048, "a/b/": 0, "ü/": 2048} {
		for _, level := range []int{-1, 0, 9} {
			rows, e := zipr.Rows(wantWritten(t, []zipw.Item{item("é", "", -1), item("a-", "", -1), {Name: name + "x", Level: level}}), wide)
			if e != api.OK || rows[2].Flags != want {
				t.Errorf("%q: flags %v, errno %d, want %d", name, rows, e, want)
			}
		}
	}
}

func TestLevels(t *testing.T) {
	text := strings.Repeat("one and the other, ", 400)
	for level := 1; level <= 9; level++ {
		wantMethod(t, item("a", text, level), 8, len(deflate.Deflate([]byte(text), level)))
	}
	for _, level := range append(farNumbers, 0) {
		if level > 9 {
			wantMethod(t, item("a", text, level), 8, len(deflate.Deflate([]byte(text), 9)))
		} else {
			wantMethod(t, item("a", text, level), 0, len(text))
		}
	}
}

// What isn't fewer bytes when it is packed is stored, even if it is as many.
func TestPackedIfFewer(t *testing.T) {
	s := &numbers{5566}
	seen := map[int]int{}
	for range 3000 {
		x := item("a", string(s.anyBytes(s.below(60), 1+s.below(8))), 1+s.below(9))
		packed := len(deflate.Deflate(x.Data, x.Level))
		less := len(x.Data) - packed
		seen[less]++
		if seen[less] > 20 {
			continue
		}
		if less > 0 {
			wantMethod(t, x, 8, packed)
		} else {
			wantMethod(t, x, 0, len(x.Data))
		}
	}
	for less := -2; less <= 2; less++ {
		if seen[less] == 0 {
			t.Errorf("none of %d less", less)
		}
	}
	for level := range 10 {
		wantMethod(t, item("a", "", level), 0, 0)
		wantMethod(t, item("a", "a", level), 0, 1)
		wantMethod(t, item("a", string(s.anyBytes(70000, 256)), level), 0, 70000)
	}
}

// P10.1: errors

func TestLimitOfItems(t *testing.T) {
	list := numbered(4097)
	wantWritten(t, list[:4095])
	wantWritten(t, list[:4096])
	wantFault(t, list, api.ErrLimit)
	wantFault(t, make([]zipw.Item, 4097), api.ErrLimit)
	wantFault(t, make([]zipw.Item, 100000), api.ErrLimit)
	wantFault(t, make([]zipw.Item, 4096), api.ErrName)
}

// noughts: items of noughts of which Most is a number, and the last of which has a
// name of two bytes.
func noughts(most int, level int) []zipw.Item {
	for n := most / 4; ; n-- {
		list := []zipw.Item{{Name: "a", Data: make([]byte, n), Level: level}, {Name: "b", Data: make([]byte, n), Level: level}, {Name: "c", Data: make([]byte, n), Level: level}}
		left := most - slowMost(list) - 76 - 4
		for last := left; last > left-1400; last-- {
			if last >= 0 && deflate.Bound(last) == left {
				return append(list, zipw.Item{Name: "dd", Data: make([]byte, last), Level: level})
			}
		}
	}
}

func TestLimitOfBytes(t *testing.T) {
	for _, level := range []int{-1, 0, 1} {
		list := noughts(1<<24, level)
		if zipw.Most(list) != 1<<24 {
			t.Fatal(zipw.Most(list))
		}
		wantWritten(t, list)
		list[3].Data = append(list[3].Data, 0)
		if zipw.Most(list) != 1<<24+1 {
			t.Fatal(zipw.Most(list))
		}
		wantFault(t, list, api.ErrLimit)
	}
	// A longer name counts as two bytes more, and packed bytes as if they weren't.
	list := noughts(1<<24-1, 9)
	wantWritten(t, list)
	list[3].Name = "ddd"
	wantFault(t, list, api.ErrLimit)
	wantFault(t, []zipw.Item{{Name: "a", Data: make([]byte, 1<<24), Level: 9}}, api.ErrLimit)
	wantFault(t, named(strings.Repeat("n", 1<<23)), api.ErrLimit)
	wantFault(t, named(strings.Repeat("n", 1<<23-52)), api.ErrName)
	wantFault(t, named(strings.Repeat("n", 1<<23-51)), api.ErrLimit)
}

// The same bytes, many times: they count each time.
func TestLimitOfSharedBytes(t *testing.T) {
	list := numbered(4096)
	data := make([]byte, 1<<22)
	for i := range list {
		list[i].Data = data
	}
	wantFault(t, list, api.ErrLimit)
	wantFault(t, list[:4], api.ErrLimit)
	wantWritten(t, list[:3])
}

func TestWrongNames(t *testing.T) {
	for _, name := range []string{"", "/", "/a", "//", "a//b", "a//", ".", "..", "./", "../", "a/.", "a/..", "a/./b", "a/../b", "../a", "a\\b", "\\", "\x00", "a\x1f", "\x7f", "a\nb",
		"\xff", "a\x80", "é\xc3", "\xed\xa0\x80", "\xc0\xaf", strings.Repeat("n", 256), strings.Repeat("é", 128), strings.Repeat("n", 255) + "/"} {
		wantFault(t, named(name), api.ErrName)
		wantFault(t, named("a", "b", name), api.ErrName)
		wantFault(t, named(name, "a"), api.ErrName)
	}
	for _, name := range []string{"...", "a/", ".a", "a.", "..a", "a/...", "%2e", " ", "a:b", "é", "\u0080", "a/é/", strings.Repeat("n", 255), strings.Repeat("é", 127), strings.Repeat("n", 254) + "/"} {
		wantWritten(t, named(name))
	}
}

func TestNamesOfAllBytes(t *testing.T) {
	for c := range 256 {
		one := string([]byte{byte(c)})
		for _, name := range []string{one, "a" + one, one + "a", "a/" + one, "é" + one} {
			wantSame(t, named(name))
		}
	}
}

func TestLikeNames(t *testing.T) {
	for _, pair := range [][2]string{{"a", "a"}, {"Ab", "aB"}, {"a/B.xml", "A/b.XML"}, {"É", "É"}, {"éA", "éa"}, {"d/", "D/"}, {"az", "AZ"}} {
		wantFault(t, named(pair[0], pair[1]), api.ErrThere)
		wantFault(t, named(pair[1], pair[0]), api.ErrThere)
		wantFault(t, named("x", pair[0], "y/z", pair[1], "w"), api.ErrThere)
	}
	for _, pair := range [][2]string{{"É", "é"}, {"a", "a/"}, {"[", "{"}, {"@", "`"}, {"k", "\u212a"}, {"a", "a/b"}, {"a b", "a  b"}, {"İ", "i"}, {"é", "e\u0301"}} {
		wantWritten(t, named(pair[0], pair[1]))
	}
	list := numbered(4095)
	wantFault(t, append(list, list[0]), api.ErrThere)
	wantFault(t, append(list, list[4094]), api.ErrThere)
}

func TestFoldersWithBytes(t *testing.T) {
	for _, level := range []int{-1, 0, 9} {
		wantFault(t, []zipw.Item{item("a/", "x", level)}, api.ErrForm)
		wantFault(t, []zipw.Item{item("a", "x", level), item("é/b/", strings.Repeat("x", 1000), level), item("c", "", level)}, api.ErrForm)
		wantWritten(t, []zipw.Item{item("a/", "", level), item("b/a", "x", level)})
	}
}

// Several faults: the one that comes first, by the items' order, then by that of the
// errors.
func TestOrderOfFaults(t *testing.T) {
	wrong, folder, a := item("..", "x", 9), item("d/", "x", 9), item("a", "x", 9)
	for _, c := range []struct {
		list []zipw.Item
		want api.Errno
	}{
		{[]zipw.Item{wrong, folder, a, a}, api.ErrName},
		{[]zipw.Item{folder, wrong, a, a}, api.ErrForm},
		{[]zipw.Item{a, a, wrong, folder}, api.ErrThere},
		{[]zipw.Item{a, folder, a, wrong}, api.ErrForm},
		{[]zipw.Item{a, wrong, a, folder}, api.ErrName},
		{[]zipw.Item{folder, folder}, api.ErrForm},
		{[]zipw.Item{item("D/", "", 9), folder}, api.ErrThere},
		{[]zipw.Item{wrong, wrong}, api.ErrName},
		{[]zipw.Item{item("./", "x", 9)}, api.ErrName},
		{slices.Repeat([]zipw.Item{wrong}, 4097), api.ErrLimit},
		{slices.Repeat([]zipw.Item{a}, 4097), api.ErrLimit},
		{slices.Repeat([]zipw.Item{folder}, 4097), api.ErrLimit},
		{[]zipw.Item{wrong, {Name: "b", Data: make([]byte, 1<<24)}}, api.ErrLimit},
		{[]zipw.Item{a, a, folder, {Name: "b", Data: make([]byte, 1<<24)}}, api.ErrLimit},
	} {
		wantFault(t, c.list, c.want)
		if len(c.list) < 5 {
			wantSame(t, c.list)
		}
	}
}

// P10.2

func TestMost(t *testing.T) {
	for n, want := range map[int]int{0: 5, 1: 6, 65534: 65539, 65535: 65540, 65536: 65546, 131070: 131080, 131071: 131086} {
		for _, level := range append(farNumbers, 0, 1, 9) {
			list := []zipw.Item{{Name: "abc", Data: make([]byte, n), Level: level}}
			if x := zipw.Most(list); x != 22+76+6+want {
				t.Errorf("%d bytes: %d, want %d", n, x, 22+76+6+want)
			}
			if x := zipw.Most(append(list, named("é/", "")...)); x != 22+3*76+6+6+10+want {
				t.Errorf("%d bytes and more: %d", n, x)
			}
		}
	}
	// It is told of what can't be written as well.
	for _, list := range [][]zipw.Item{make([]zipw.Item, 10000), numbered(5000), named("..", "a", "a", "\xff", strings.Repeat("n", 70000)), {item("d/", "x", 9)}, {{Name: "a", Data: make([]byte, 1<<25)}}} {
		if x := zipw.Most(list); x != slowMost(list) {
			t.Errorf("%d items: %d, want %d", len(list), x, slowMost(list))
		}
	}
}

// P10.3

// The library reads the archives as well.
func TestReadByOthers(t *testing.T) {
	list := someItems()
	b := wantWritten(t, list)
	theirs, err := zip.NewReader(bytes.NewReader(b), int64(len(b)))
	if err != nil || len(theirs.File) != len(list) || theirs.Comment != "" {
		t.Fatal(err)
	}
	for i, f := range theirs.File {
		place, err := f.Open()
		if err != nil {
			t.Fatal(err)
		}
		data, err := io.ReadAll(place)
		if err != nil || f.Name != list[i].Name || !bytes.Equal(data, list[i].Data) {
			t.Errorf("%d: %v, %q, %d bytes", i, err, f.Name, len(data))
		}
		if f.CreatorVersion != 20 || f.ReaderVersion != 20 || int(f.Flags) != slowFlags(f.Name) || f.ModifiedTime != 0 || f.ModifiedDate != 33 || f.ExternalAttrs != 0 || len(f.Extra) != 0 || f.Comment != "" {
			t.Errorf("%d: %v", i, f.FileHeader)
		}
	}
}

// What is read of one archive is written as another, and so on.
func TestWrittenAgain(t *testing.T) {
	list := someItems()
	b := wantWritten(t, list)
	for range 2 {
		entries, _ := zipr.Read(b, wide)
		var again []zipw.Item
		for i, x := range entries {
			again = append(again, zipw.Item{Name: x.Name, Data: x.Data, Level: list[i].Level})
		}
		if c := wantWritten(t, again); !bytes.Equal(c, b) {
			t.Fatal("other bytes")
		}
	}
}

// Archives within archives: their signs stand in the bytes of entries.
func TestSignsInBytes(t *testing.T) {
	signs := "PK\x03\x04PK\x01\x02PK\x07\x08PK\x05\x06"
	b := wantWritten(t, []zipw.Item{item("PK", signs, -1), item("PK/", "", 9)})
	for range 3 {
		b = wantWritten(t, []zipw.Item{item("inner.zip", string(b), -1), item("packed.zip", string(b), 9), item("last", "PK\x05\x06"+strings.Repeat("\x00", 18), -1)})
	}
}

func TestAnyItems(t *testing.T) {
	s := &numbers{778899}
	names := []string{"a", "A", "b", "d/", "D/", "a/b", "é", "É", "日", "x.xml", "X.XML", "a//b", ".", "\xff", "", "c\\d", "e/f/", "[1].xml", "q", "r", "s", "t"}
	seen := map[api.Errno]int{}
	for range 6000 {
		var list []zipw.Item
		for range s.below(5) {
			x := zipw.Item{Name: names[s.below(len(names))], Level: s.below(13) - 2}
			if s.below(3) > 0 {
				x.Data = s.anyBytes(s.below(400), 1+s.below(20))
			}
			list = append(list, x)
		}
		seen[wantSame(t, list)]++
	}
	for _, e := range []api.Errno{api.OK, api.ErrName, api.ErrThere, api.ErrForm} {
		if seen[e] < 100 {
			t.Errorf("errno %d: %d times", e, seen[e])
		}
	}
}

// scribble writes to all of a list, and to the room behind it.
func scribble(b []byte) {
	b = b[:cap(b)]
	for i := range b {
		b[i] ^= 255
	}
}

// roomy: items with room behind their bytes, and behind the list, in which there is
// something.
func roomy(list []zipw.Item) []zipw.Item {
	var all []zipw.Item
	for _, x := range list {
		data := append(bytes.Clone(x.Data), "behind the length"...)
		all = append(all, zipw.Item{Name: x.Name, Data: data[:len(x.Data)], Level: x.Level})
	}
	return append(all, item("behind", "the list", 3))[:len(list)]
}

// wantKept asks whether roomy items, and what is behind them, are as they were.
func wantKept(t *testing.T, list, were []zipw.Item) {
	t.Helper()
	for i, x := range list[:len(list)+1] {
		y := were[:len(were)+1][i]
		if x.Name != y.Name || x.Level != y.Level || !bytes.Equal(x.Data[:cap(y.Data)], y.Data[:cap(y.Data)]) {
			t.Fatalf("%d: %q is changed", i, y.Name)
		}
	}
}

func TestNothingIsChanged(t *testing.T) {
	faulty := []zipw.Item{item("a", "x", 9), item("d/", "x", 9)}
	for _, some := range [][]zipw.Item{someItems(), nil, faulty} {
		list, were := roomy(some), roomy(some)
		var want []byte
		for round := range 3 {
			b, e := zipw.Write(list)
			zipw.Size(list)
			zipw.Most(list)
			if e != slowFault(some) || round > 0 && !bytes.Equal(b, want) {
				t.Fatalf("%d: errno %d, or other bytes", round, e)
			}
			want = bytes.Clone(b)
			// What is written to the archive isn't seen in what was handed in.
			scribble(b)
			wantKept(t, list, were)
		}
	}
}

// What is written later to what was handed in isn't seen in the archive.
func TestNothingIsKept(t *testing.T) {
	for _, x := range someItems() {
		list := roomy([]zipw.Item{x})
		b, _ := zipw.Write(list)
		want := bytes.Clone(b)
		other, _ := zipw.Write(list)
		scribble(list[0].Data)
		scribble(other)
		list[0] = zipw.Item{}
		if !bytes.Equal(b, want) {
			t.Errorf("%q is changed", x.Name)
		}
	}
}

func FuzzWrite(f *testing.F) {
	f.Add("a", []byte("hello"), 9, "b/", []byte(nil), -1)
	f.Add("é", []byte("aaaaaaaaaaaaaaaaaaaaaaaaa"), 1, "É", []byte("PK\x05\x06"), 0)
	f.Add("", []byte(nil), 0, "\xff", []byte{0}, 100)
	f.Fuzz(func(t *testing.T, name string, data []byte, level int, other string, more []byte, last int) {
		wantSame(t, []zipw.Item{{Name: name, Data: data, Level: level}, {Name: other, Data: more, Level: last}})
	})
}
