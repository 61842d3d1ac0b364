package zipr_test

import (
	"archive/zip"
	"bytes"
	"fmt"
	"io"
	"math"
	"runtime"
	"slices"
	"strings"
	"testing"
	"time"
	"unicode/utf8"

	"etui/api"
	"etui/deflate"
	"etui/zipr"
)

var wide = zipr.Limits{Bytes: 1 << 24, Entries: 1 << 16, Total: 1 << 24}

// farNumbers are limits that are far off.
var farNumbers = []int{-1, -2, -22, -65535, -1 << 31, -1 << 32, math.MinInt, math.MinInt + 1, 1 << 31, 1 << 32, 1 << 62, math.MaxInt - 1, math.MaxInt}

func sameEntry(x, y zipr.Entry) bool {
	return x.Name == y.Name && bytes.Equal(x.Data, y.Data) && x.Method == y.Method && x.Extra == y.Extra && x.At == y.At
}

func sameRow(x, y zipr.Row) bool {
	same := bytes.Equal(x.Remark, y.Remark)
	x.Remark, y.Remark = nil, nil
	return same && fmt.Sprint(x) == fmt.Sprint(y)
}

// wantSame asks whether Read and Rows answer what the chapter tells, step by step;
// it answers the errors.
func wantSame(t *testing.T, b []byte, l zipr.Limits) (ofRead, ofRows api.Errno) {
	t.Helper()
	entries, ofRead := slowRead(b, l)
	rows, ofRows := slowRows(b, l)
	if x, e := zipr.Read(b, l); e != ofRead || !slices.EqualFunc(x, entries, sameEntry) {
		t.Fatalf("Read of %q by %v:\n%v, errno %d, want\n%v, errno %d", b, l, x, e, entries, ofRead)
	}
	if x, e := zipr.Rows(b, l); e != ofRows || !slices.EqualFunc(x, rows, sameRow) {
		t.Fatalf("Rows of %q by %v:\n%v, errno %d, want\n%v, errno %d", b, l, x, e, rows, ofRows)
	}
	return ofRead, ofRows
}

// wantErrnos asks for the errors of Read and Rows, and for nothing beside them.
func wantErrnos(t *testing.T, b []byte, l zipr.Limits, ofRead, ofRows api.Errno) {
	t.Helper()
	entries, e := zipr.Read(b, l)
	if e != ofRead || e != api.OK && len(entries) > 0 {
		t.Errorf("Read of %d bytes by %v: %d entries, errno %d, want %d", len(b), l, len(entries), e, ofRead)
	}
	rows, e := zipr.Rows(b, l)
	if e != ofRows || e != api.OK && len(rows) > 0 {
		t.Errorf("Rows of %d bytes by %v: %d rows, errno %d, want %d", len(b), l, len(rows), e, ofRows)
	}
}

// wantFault asks for an error of the rows, which both calls answer.
func wantFault(t *testing.T, b []byte, want api.Errno) {
	t.Helper()
	wantErrnos(t, b, wide, want, want)
}

// wantDeepFault asks for an error that Rows doesn't look for.
func wantDeepFault(t *testing.T, b []byte, want api.Errno) {
	t.Helper()
	wantErrnos(t, b, wide, want, api.OK)
}

func wantEntries(t *testing.T, b []byte, want ...zipr.Entry) {
	t.Helper()
	list, e := zipr.Read(b, wide)
	if e != api.OK || !slices.EqualFunc(list, want, sameEntry) {
		t.Errorf("%v, errno %d, want %v", list, e, want)
	}
	wantSame(t, b, wide)
}

// someFiles: entries of all kinds.
func someFiles() []file {
	noted := stored("noted", "with a remark")
	noted.remark = "a remark"
	told := packed("Told.xml", "sums in the head as well, sums in the head as well").late("")
	told.blank = false
	return []file{
		stored("a.txt", "hello"), packed("b/", ""), packed("dir/b.bin", strings.Repeat("abc", 50)), stored("dir/", ""), stored("dir", "no folder"),
		packed("é", "a").flagged(isUTF), stored("plain", "told as UTF-8").flagged(isUTF), stored("late", "xyz").late(""),
		packed("signed", "zzz").late(sumsSign), told, stored("bare", "").extras("ab", "cdefg"), packed("fast", "q").flagged(2 | 4), noted,
		stored("none/at/all/", "").late(sumsSign).extras("", "x"),
	}
}

// P9.1: Read

func TestTheExample(t *testing.T) {
	b := []byte(endSign + strings.Repeat("\x00", 18))
	wantEntries(t, b)
	if rows, e := zipr.Rows(b, zipr.Limits{Bytes: 22}); e != api.OK || len(rows) != 0 {
		t.Error(rows, e)
	}
	if list, e := zipr.Read(b, zipr.Limits{Bytes: 22, Entries: -1, Total: -1}); e != api.OK || len(list) != 0 {
		t.Error(list, e)
	}
}

func TestReadEntries(t *testing.T) {
	x := lay(someFiles()...)
	plain := []string{"hello", "", strings.Repeat("abc", 50), "", "no folder", "a", "told as UTF-8", "xyz", "zzz", "sums in the head as well, sums in the head as well", "", "q", "with a remark", ""}
	var want []zipr.Entry
	for i, f := range someFiles() {
		want = append(want, zipr.Entry{Name: f.name, Data: []byte(plain[i]), Method: f.method, Extra: len(f.headExtra) + len(f.rowExtra), At: x.heads[i]})
	}
	wantEntries(t, x.b, want...)
}

// The rows' order counts, not that of the heads; what is between heads doesn't.
func TestReadByRows(t *testing.T) {
	a, b, c := stored("a", "1"), packed("b", "22"), stored("c", "333").late(sumsSign)
	heads := "ahead" + a.head() + "between" + b.head() + c.head() + "behind"
	ofB := 5 + len(a.head()) + 7
	ofC := ofB + len(b.head())
	wantEntries(t, layParts(heads, c.row(ofC), a.row(5), b.row(ofB)),
		zipr.Entry{Name: "c", Data: []byte("333"), At: ofC}, zipr.Entry{Name: "a", Data: []byte("1"), At: 5}, zipr.Entry{Name: "b", Data: []byte("22"), Method: 8, At: ofB})
	// An entry that no row tells of is none.
	wantEntries(t, layParts(heads, a.row(5)), zipr.Entry{Name: "a", Data: []byte("1"), At: 5})
	wantEntries(t, layParts(heads))
}

func TestReadBehindOthers(t *testing.T) {
	for _, ahead := range []string{"", "x", strings.Repeat("MZ", 500), stored("other", "o").head() + "..", string(lay(stored("other", "o")).b)} {
		x := layBehind(ahead, "remark", stored("a", "1"))
		wantEntries(t, x.b, zipr.Entry{Name: "a", Data: []byte("1"), At: len(ahead)})
	}
}

// Archives that others write.
func TestReadOthers(t *testing.T) {
	s := &numbers{24680}
	for round := range 40 {
		var out bytes.Buffer
		w := zip.NewWriter(&out)
		w.SetComment(strings.Repeat("!", s.below(100)))
		w.SetOffset(0)
		var want []zipr.Entry
		for i := range s.below(20) {
			h := &zip.FileHeader{Name: fmt.Sprintf("part%d/ü%d.xml", round, i), Method: uint16(8 * s.below(2)), Comment: strings.Repeat("?", s.below(9))}
			if s.below(2) == 0 {
				h.Modified = time.Date(2020, 1, 2, 3, 4, 6, 0, time.UTC)
			}
			data := bytes.Repeat([]byte(h.Name), s.below(300))
			if s.below(4) == 0 {
				h.Name, data = fmt.Sprintf("folder%d/", i), nil
			}
			place, err := w.CreateHeader(h)
			if err != nil {
				t.Fatal(err)
			}
			place.Write(data)
			want = append(want, zipr.Entry{Name: h.Name, Data: data, Method: int(h.Method)})
		}
		w.Close()
		list, e := zipr.Read(out.Bytes(), wide)
		if e != api.OK || len(list) != len(want) {
			t.Fatal(len(list), e)
		}
		wantLikeTheirs(t, out.Bytes())
		for i, x := range list {
			if x.Name != want[i].Name || !bytes.Equal(x.Data, want[i].Data) || x.Method != want[i].Method {
				t.Errorf("%v, want %v", x, want[i])
			}
		}
	}
}

// wantLikeTheirs asks whether the rows are those that the library reads, and whether
// its reader finds the same bytes.
func wantLikeTheirs(t *testing.T, b []byte) {
	t.Helper()
	theirs, err := zip.NewReader(bytes.NewReader(b), int64(len(b)))
	if err != nil {
		t.Fatal(err)
	}
	rows, e := zipr.Rows(b, wide)
	entries, eRead := zipr.Read(b, wide)
	if e != api.OK || eRead != api.OK || len(rows) != len(theirs.File) {
		t.Fatal(len(rows), e, eRead)
	}
	for i, f := range theirs.File {
		r := rows[i]
		if r.Name != f.Name || r.Flags != int(f.Flags) || r.Method != int(f.Method) || r.Time != int(f.ModifiedTime) || r.Date != int(f.ModifiedDate) ||
			r.Sum != f.CRC32 || r.Packed != int(f.CompressedSize64) || r.Plain != int(f.UncompressedSize64) || r.Extra != len(f.Extra) || string(r.Remark) != f.Comment {
			t.Errorf("%v, want %v", r, f.FileHeader)
		}
		place, err := f.Open()
		if err != nil {
			t.Fatal(err)
		}
		data, err := io.ReadAll(place)
		if err != nil || !bytes.Equal(data, entries[i].Data) {
			t.Errorf("%s: %v", f.Name, err)
		}
	}
}

// P9.1: Rows

func TestRowsOfAll(t *testing.T) {
	x := lay(someFiles()...)
	rows, e := zipr.Rows(x.b, wide)
	if e != api.OK || len(rows) != len(someFiles()) {
		t.Fatal(len(rows), e)
	}
	for i, f := range someFiles() {
		want := zipr.Row{Name: f.name, Flags: f.flags, Method: f.method, Time: 11, Date: 12, Packed: len(f.data), Plain: f.plain, At: x.heads[i], Extra: len(f.rowExtra), Sum: f.sum, Remark: []byte(f.remark)}
		if !sameRow(rows[i], want) {
			t.Errorf("%v, want %v", rows[i], want)
		}
	}
	wantLikeTheirs(t, x.b)
}

// Rows doesn't look at what stands ahead of the rows.
func TestRowsAlone(t *testing.T) {
	r := stored("a", "hello").row(4294967294)
	rows, e := zipr.Rows(layParts("", r), zipr.Limits{Bytes: 1000, Entries: 1})
	if e != api.OK || len(rows) != 1 || rows[0].At != 4294967294 || rows[0].Plain != 5 {
		t.Error(rows, e)
	}
	wantDeepFault(t, layParts("", r), api.ErrForm)
	big := file{name: "big", data: "", method: 8, sum: 4294967295, plain: 4294967294}
	rows, e = zipr.Rows(layParts("", big.row(1)), zipr.Limits{Bytes: 1000, Entries: 1})
	if e != api.OK || len(rows) != 1 || rows[0].Plain != 4294967294 || rows[0].Sum != 4294967295 {
		t.Error(rows, e)
	}
}

// The steps 1 and 2

func TestPlaceOfTheEnd(t *testing.T) {
	x := layBehind("", "remark", stored("a", "1"))
	for n := range len(x.b) {
		wantFault(t, x.b[:n], api.ErrForm)
	}
	wantFault(t, with(x.b, len(x.b), "!"), api.ErrForm)
	wantFault(t, with(x.b, 0, "!"), api.ErrForm)
	for _, n := range []int{0, 1, 21, 22, 65534, 65535} {
		whole := layBehind("", strings.Repeat("r", n), stored("a", "1"))
		wantErrnos(t, whole.b, wide, api.OK, api.OK)
		wantErrnos(t, with(whole.b, len(whole.b), "r"), wide, api.ErrForm, api.ErrForm)
	}
	wantFault(t, nil, api.ErrForm)
	wantFault(t, []byte{}, api.ErrForm)
	wantFault(t, make([]byte, 22), api.ErrForm)
	wantFault(t, []byte(strings.Repeat(endSign, 40)), api.ErrForm)
	wantFault(t, []byte(strings.Repeat("\x00", 100)+endSign), api.ErrForm)
}

// An end within the remark counts, if its own remark ends where the bytes do.
func TestEndWithinTheRemark(t *testing.T) {
	for _, inner := range []string{endOf(0, 0, 0, "x")[:22], endSign, endOf(0, 0, 0, "")[:21], endOf(0, 0, 0, "")[4:]} {
		wantErrnos(t, layBehind("", inner, stored("a", "1")).b, wide, api.OK, api.OK)
	}
	for _, rest := range []string{"", "!", "so"} {
		x := layBehind("", "ahead"+endOf(0, 0, 0, rest), stored("a", "1"))
		wantFault(t, x.b, api.ErrForm) // its rows don't end where it begins
		at := x.end + 22 + 5
		x = layBehind("", "ahead"+endOf(0, 0, at, rest), stored("a", "1"))
		wantEntries(t, x.b)
	}
	// Two ends: the one ahead has the other one for its remark.
	two := endOf(0, 0, 0, endOf(0, 0, 22, ""))
	wantEntries(t, []byte(two))
	wantFault(t, []byte(endOf(0, 0, 0, endOf(1, 0, 22, ""))), api.ErrForm)
	wantFault(t, []byte(endOf(0, 0, 0, endOf(65535, 0, 22, ""))), api.ErrMethod)
}

func TestEndFaults(t *testing.T) {
	x := layBehind("ahead", "remark", stored("a", "1"), packed("b", "2"))
	for at, list := range map[int]map[string]api.Errno{
		4:  {u16(1): api.ErrMethod, u16(256): api.ErrMethod, u16(65535): api.ErrMethod},
		6:  {u16(1): api.ErrMethod, u16(256): api.ErrMethod, u16(65535): api.ErrMethod},
		8:  {u16(0): api.ErrForm, u16(1): api.ErrForm, u16(3): api.ErrForm, u16(65534): api.ErrForm, u16(65535): api.ErrMethod, u16(1, 1): api.ErrForm, u16(0, 0): api.ErrForm, u16(3, 3): api.ErrForm, u16(65534, 65534): api.ErrForm, u16(65535, 65535): api.ErrMethod},
		10: {u16(0): api.ErrForm, u16(1): api.ErrForm, u16(3): api.ErrForm, u16(65534): api.ErrForm, u16(65535): api.ErrMethod},
		12: {u32(0): api.ErrForm, u32(1): api.ErrForm, u32(4294967294): api.ErrForm, u32(4294967295): api.ErrMethod, u32(x.end, 0): api.ErrForm, u32(0, x.end): api.ErrForm, u32(4294967295, x.end+1): api.ErrMethod},
		16: {u32(0): api.ErrForm, u32(1): api.ErrForm, u32(4294967294): api.ErrForm, u32(4294967295): api.ErrMethod},
		20: {u16(5): api.ErrForm, u16(7): api.ErrForm, u16(0): api.ErrForm, u16(65535): api.ErrForm},
	} {
		for to, want := range list {
			wantFault(t, x.changed(x.end+at, to), want)
			wantSame(t, x.changed(x.end+at, to), wide)
		}
	}
	// The great form is told ahead of rows that are unlike, and those ahead of the
	// limit.
	wantFault(t, x.changed(x.end+8, u16(1, 65535)), api.ErrMethod)
	few := zipr.Limits{Bytes: 1000, Entries: 1, Total: 1000}
	wantErrnos(t, x.changed(x.end+8, u16(3)), few, api.ErrForm, api.ErrForm)
	wantErrnos(t, x.changed(x.end+8, u16(65535, 65535)), few, api.ErrMethod, api.ErrMethod)
	wantErrnos(t, x.changed(x.end+12, u32(1)), few, api.ErrForm, api.ErrForm)
	wantErrnos(t, x.changed(x.rows[0], "!"), few, api.ErrLimit, api.ErrLimit)
}

// The remark's own number may be 65,535.
func TestGreatRemark(t *testing.T) {
	wantErrnos(t, layBehind("", strings.Repeat("!", 65535)).b, wide, api.OK, api.OK)
}

// The step 3

func TestRowFaults(t *testing.T) {
	noted := stored("b", "2")
	noted.remark = "why"
	x := lay(stored("a", "1"), noted, packed("c", "3"))
	for at, list := range map[int]map[string]api.Errno{
		0:  {"\x00": api.ErrForm, headSign: api.ErrForm},
		4:  {u16(65535, 65535): api.OK},
		8:  {u16(1): api.ErrMethod, u16(16): api.ErrMethod, u16(1024): api.ErrMethod, u16(4096): api.ErrMethod, u16(32768): api.ErrMethod, u16(65535): api.ErrMethod},
		10: {u16(1): api.ErrMethod, u16(7): api.ErrMethod, u16(9): api.ErrMethod, u16(12): api.ErrMethod, u16(256): api.ErrMethod, u16(65535): api.ErrMethod},
		12: {u16(65535, 65535): api.OK},
		20: {u32(4294967295): api.ErrMethod},
		24: {u32(4294967295): api.ErrMethod},
		28: {u16(0): api.ErrName, u16(65535): api.ErrForm},
		34: {u16(1): api.ErrMethod, u16(256): api.ErrMethod, u16(65535): api.ErrMethod},
		36: {u16(65535): api.OK},
		38: {u32(4294967295): api.OK},
		42: {u32(4294967295): api.ErrMethod},
		46: {"/": api.ErrName, ".": api.ErrName, "\\": api.ErrName, "\x00": api.ErrName, "\x1f": api.ErrName, "\x7f": api.ErrName, "\x80": api.ErrName, "\xff": api.ErrName},
	} {
		for to, want := range list {
			for _, row := range x.rows {
				wantFault(t, x.changed(row+at, to), want)
				wantSame(t, x.changed(row+at, to), wide)
			}
		}
	}
	for _, to := range []int{0, 2, 255, 4294967294} {
		wantFault(t, x.changed(x.rows[0]+20, u32(to)), api.ErrForm)
		wantFault(t, x.changed(x.rows[1]+24, u32(to)), api.ErrForm)
		wantDeepFault(t, x.changed(x.rows[2]+24, u32(to)), api.ErrForm)
	}
}

// Flags that may be set, and each that may not.
func TestFlags(t *testing.T) {
	for bit := range 16 {
		f := stored("a", "1").flagged(1 << bit)
		if bit == 3 {
			f = stored("a", "1").late("")
		}
		want := api.ErrMethod
		if bit == 1 || bit == 2 || bit == 3 || bit == 11 {
			want = api.OK
		}
		wantFault(t, lay(f).b, want)
	}
}

func TestRowsThatAreNotThere(t *testing.T) {
	f := stored("name", "1")
	f.rowExtra, f.remark = "extra", "remark"
	whole := f.row(0)
	for n := range len(whole) {
		b := []byte(f.head() + whole[:n] + endOf(1, n, len(f.head()), ""))
		wantFault(t, b, api.ErrForm)
	}
	for _, at := range []int{28, 30, 32} {
		x := lay(f)
		for _, n := range []int{7, 1000, 65535} {
			wantFault(t, x.changed(x.rows[0]+at, u16(n)), api.ErrForm)
		}
	}
	// Bytes behind the last row, and too few rows.
	rows := f.row(0) + "!"
	wantFault(t, []byte(f.head()+rows+endOf(1, len(rows), len(f.head()), "")), api.ErrForm)
	wantFault(t, []byte(f.head()+f.row(0)+endOf(2, len(f.row(0)), len(f.head()), "")), api.ErrForm)
	wantFault(t, []byte("!"+endOf(0, 1, 0, "")), api.ErrForm)
	wantFault(t, []byte(f.head()+f.row(0)+endOf(0, len(f.row(0)), len(f.head()), "")), api.ErrForm)
	wantFault(t, []byte(endOf(65534, 0, 0, "")), api.ErrForm)
}

func TestNamesInRows(t *testing.T) {
	for _, name := range someNames() {
		for _, bits := range []int{0, isUTF} {
			want := api.OK
			if slowNameFault(name, bits > 0) {
				want = api.ErrName
			}
			f := file{name: name}.flagged(bits)
			wantFault(t, lay(f).b, want)
		}
	}
	long := strings.Repeat("n", 255)
	wantErrnos(t, lay(stored(long, "1")).b, wide, api.OK, api.OK)
	wantFault(t, lay(stored(long+"n", "1")).b, api.ErrName)
	wantFault(t, lay(stored(strings.Repeat("n", 65535), "1")).b, api.ErrName)
}

func TestLikeNames(t *testing.T) {
	for _, c := range []struct {
		one, other string
		want       api.Errno
	}{
		{"a", "a", api.ErrThere}, {"a", "A", api.ErrThere}, {"dir/Ab.Z", "DIR/aB.z", api.ErrThere}, {"a/", "A/", api.ErrThere},
		{"a", "a/", api.OK}, {"a", "b", api.OK}, {"é", "É", api.OK}, {"é", "é", api.ErrThere}, {"ÉZ", "Éz", api.ErrThere}, {"k", "\u212a", api.OK},
		{"@", "`", api.OK}, {"[", "{", api.OK}, {"a.b", "a-b", api.OK}, {"ss", "ß", api.OK}, {"aa", "a", api.OK},
	} {
		one, other := stored(c.one, "").flagged(isUTF), stored(c.other, "").flagged(isUTF)
		wantFault(t, lay(one, other).b, c.want)
		wantFault(t, lay(other, one).b, c.want)
		wantFault(t, lay(stored("first", ""), one, stored("other", ""), other, stored("last", "")).b, c.want)
	}
}

func TestSizesOfRows(t *testing.T) {
	wantFault(t, lay(file{name: "a", data: "1", plain: 2, sum: sumOf("1")}).b, api.ErrForm)
	wantFault(t, lay(file{name: "a", data: "12", plain: 1, sum: sumOf("1")}).b, api.ErrForm)
	wantFault(t, lay(stored("a/", "1")).b, api.ErrForm)
	wantFault(t, lay(packed("a/", "1")).b, api.ErrForm)
	wantFault(t, lay(packed("a/b/", "1")).b, api.ErrForm)
	wantErrnos(t, lay(packed("a/", "")).b, wide, api.OK, api.OK)
}

// Of the faults of one row the first one counts, and that of an earlier row ahead of
// those of a later one.
func TestRowsInOrder(t *testing.T) {
	x := lay(stored("a", "1"), stored("b", "2"), stored("c", "3"))
	at := x.rows[1]
	put := func(b []byte, at int, to string) []byte {
		b = bytes.Clone(b)
		copy(b[at:], to)
		return b
	}
	b := put(x.b, at+24, u32(9))
	wantFault(t, b, api.ErrForm)
	b = put(b, at+46, "A")
	wantFault(t, b, api.ErrThere)
	b = put(b, at+46, "/")
	wantFault(t, b, api.ErrName)
	b = put(b, at+10, u16(1))
	wantFault(t, b, api.ErrMethod)
	b = put(b, at, "!")
	wantFault(t, b, api.ErrForm)
	wantFault(t, put(b, x.rows[0]+46, "/"), api.ErrName)
	wantFault(t, put(b, x.rows[0]+10, u16(1)), api.ErrMethod)
	wantFault(t, put(put(x.b, x.rows[2]+46, "/"), at+10, u16(1)), api.ErrMethod)
	// All rows go ahead of the heads, and their end, too.
	wantFault(t, put(put(x.b, x.rows[2]+46, "/"), 0, "!"), api.ErrName)
	rows := stored("a", "1").row(7) + "!"
	wantFault(t, []byte(rows+endOf(1, len(rows), 0, "")), api.ErrForm)
}

// The step 4

func TestHeadFaults(t *testing.T) {
	x := lay(stored("aa", "1").extras("head", "row"), packed("bb", "two"), stored("cc", "3").late(""), packed("dd", "4").late(sumsSign))
	for at, list := range map[int]map[string]api.Errno{
		0:  {"\x00": api.ErrForm, rowSign: api.ErrForm, sumsSign: api.ErrForm},
		4:  {u16(0): api.OK, u16(65535): api.OK},
		6:  {u16(1): api.ErrForm, u16(2): api.ErrForm, u16(10): api.ErrForm, u16(2048): api.ErrForm, u16(65535): api.ErrForm},
		8:  {u16(1): api.ErrForm, u16(9): api.ErrForm, u16(65535): api.ErrForm},
		10: {u16(65535, 65535): api.OK},
		14: {u32(77): api.ErrForm, u32(4294967295): api.ErrForm},
		18: {u32(77): api.ErrForm, u32(4294967295): api.ErrForm},
		22: {u32(77): api.ErrForm, u32(4294967295): api.ErrForm},
		26: {u16(0): api.ErrForm, u16(1): api.ErrForm, u16(3): api.ErrForm, u16(65535): api.ErrForm},
		28: {u16(65535): api.ErrForm},
		30: {"A": api.ErrForm, "x": api.ErrForm, "/": api.ErrForm, "\x00": api.ErrForm},
		31: {"A": api.ErrForm, "x": api.ErrForm, "/": api.ErrForm},
	} {
		for to, want := range list {
			for _, head := range x.heads {
				wantDeepFault(t, x.changed(head+at, to), want)
				wantSame(t, x.changed(head+at, to), wide)
			}
		}
	}
	wantDeepFault(t, x.changed(x.heads[0]+8, u16(8)), api.ErrForm)
	wantDeepFault(t, x.changed(x.heads[0]+6, u16(8)), api.ErrForm)
	wantDeepFault(t, x.changed(x.heads[2]+6, u16(0)), api.ErrForm)
	wantDeepFault(t, x.changed(x.heads[0]+14, u32(0, 0, 0)), api.ErrForm)
}

// The sums of a head with the bit 3: all of them the row's, or all noughts.
func TestSumsOfHeads(t *testing.T) {
	f := packed("a", "text of an entry").late("")
	x := lay(f)
	own := []int{int(f.sum), len(f.data), f.plain}
	for mask := range 8 {
		var told []int
		for i, n := range own {
			told = append(told, n*(mask>>i&1))
		}
		want := api.ErrForm
		if mask == 0 || mask == 7 {
			want = api.OK
		}
		wantDeepFault(t, x.changed(14, u32(told...)), want)
	}
}

func TestHeadsThatAreNotThere(t *testing.T) {
	f := stored("name", "bytes").extras("extra", "")
	head := f.head()
	for n := range len(head) {
		want := api.ErrEnd
		if n < len(head)-5 {
			want = api.ErrForm
		}
		wantDeepFault(t, layParts(head[:n], f.row(0)), want)
		wantDeepFault(t, layParts("!"+head[:n], f.row(1)), want)
	}
	wantDeepFault(t, layParts(head, f.row(1)), api.ErrForm)
	wantDeepFault(t, layParts(head, f.row(len(head))), api.ErrForm)
	wantDeepFault(t, layParts(head, f.row(4294967294)), api.ErrForm)
	// Bytes that aren't there are told ahead of what would be behind them, and of
	// another row's head.
	late := f.late("")
	wantDeepFault(t, layParts(late.head()[:len(head)-1], late.row(0)), api.ErrEnd)
	wantDeepFault(t, layParts(head[:len(head)-1], f.row(0), stored("x", "").row(9)), api.ErrEnd)
	wantDeepFault(t, layParts(head[:len(head)-1], stored("x", "").row(9), f.row(0)), api.ErrForm)
	great := file{name: "great", method: 8, data: "", plain: 4294967294}
	wantDeepFault(t, layParts(strings.Replace(great.head(), u32(0, 0), u32(0, 4294967294), 1), strings.Replace(great.row(0), u32(0, 0), u32(0, 4294967294), 1)), api.ErrEnd)
}

func TestSumsBehind(t *testing.T) {
	f := packed("a", "text of an entry")
	sums := f.sums()
	for behind, want := range map[string]api.Errno{
		sums: api.OK, sumsSign + sums: api.OK, sums + "more": api.OK, sumsSign + sums + "more": api.OK,
		"": api.ErrForm, sums[:11]: api.ErrForm, sumsSign: api.ErrForm, sumsSign + sums[:11]: api.ErrForm, "!" + sums: api.ErrForm,
		headSign + sums: api.ErrForm, sumsSign + sumsSign + sums: api.ErrForm, u32(0, 0, 0): api.ErrForm, sumsSign + u32(0, 0, 0): api.ErrForm,
		u32(1) + sums[4:]: api.ErrForm, sums[:4] + u32(1) + sums[8:]: api.ErrForm, sums[:8] + u32(1): api.ErrForm, sumsSign + sums[:8] + u32(1): api.ErrForm,
	} {
		x := f.late("")
		x.behind = behind
		wantDeepFault(t, lay(x).b, want)
		x.blank = false
		wantDeepFault(t, lay(x).b, want)
		wantSame(t, lay(x, stored("b", "")).b, wide)
	}
}

// A sum that is the sign's number: both with the sign ahead of it, and without.
func TestSumThatIsASign(t *testing.T) {
	f := stored("a", "\xac\x0a\x7a\xd5")
	if u32(int(f.sum)) != sumsSign {
		t.Fatal(f.sum)
	}
	for _, sign := range []string{"", sumsSign} {
		x := f.late(sign)
		wantErrnos(t, lay(x, stored("b", "2")).b, wide, api.OK, api.OK)
		// What is behind is as long as it is read: the next head may begin there, but
		// no byte ahead of it.
		next := stored("b", "2")
		at := len(x.head())
		wantErrnos(t, layParts(x.head()+next.head(), x.row(0), next.row(at)), wide, api.OK, api.OK)
	}
}

// The step 5

// nested: the heads of an entry in whose bytes stands what is told, and its row.
func nested(inner string) (file, string) {
	f := stored("outer", inner)
	return f, f.row(0)
}

func TestClashes(t *testing.T) {
	in := stored("in", "x")
	outer, row := nested(in.head())
	at := len(outer.head()) - len(in.head())
	wantDeepFault(t, layParts(outer.head(), row, in.row(at)), api.ErrClash)
	wantDeepFault(t, layParts(outer.head(), in.row(at), row), api.ErrClash)
	wantErrnos(t, layParts(outer.head(), row), wide, api.OK, api.OK)
	wantErrnos(t, layParts(outer.head(), in.row(at)), wide, api.OK, api.OK)
	// Within the extra of a head.
	wrap := stored("wrap", "").extras(in.head(), "")
	wantDeepFault(t, layParts(wrap.head(), wrap.row(0), in.row(34)), api.ErrClash)
	// A third one between two that clash.
	outer, row = nested(in.head() + strings.Repeat(".", 50))
	far := stored("far", "3")
	rows := []string{row, far.row(len(outer.head())), in.row(35)}
	for range rows {
		rows = append(rows[1:], rows[0])
		wantDeepFault(t, layParts(outer.head()+far.head(), rows...), api.ErrClash)
	}
}

// What two have may touch, and no more than that.
func TestClashesByOneByte(t *testing.T) {
	for _, sign := range []string{"", sumsSign} {
		last := stored("b", "2")
		f := stored("a", "PK").late(sign)
		wantErrnos(t, lay(f, last).b, wide, api.OK, api.OK)
		// The bytes of one end with a byte that the other one's head begins with.
		for _, data := range []string{"P", "PK", "PK\x03", headSign} {
			one := stored("a", data)
			heads := one.head()[:len(one.head())-len(data)] + last.head()
			wantDeepFault(t, layParts(heads, one.row(0), last.row(len(one.head())-len(data))), api.ErrClash)
		}
	}
	// So do the sums behind the bytes: the number of plain bytes is a head's sign.
	last := stored("b", "2")
	for _, sign := range []string{"", sumsSign} {
		one := file{name: "a", data: "\x03\x00", method: 8, plain: 0x04034b50}.late(sign)
		at := len(one.head()) - 4
		wantDeepFault(t, layParts(one.head()[:at]+last.head(), one.row(0), last.row(at)), api.ErrClash)
		wantDeepFault(t, layParts(one.head()+last.head(), one.row(0), last.row(at+4)), api.ErrForm)
	}
}

// The step 6

func TestBytesOfEntries(t *testing.T) {
	hello := packed("a", "hello, hello, hello")
	change := func(f func(x *file)) []byte {
		x := hello
		f(&x)
		return lay(stored("first", "1"), x, stored("last", "2")).b
	}
	for i, c := range []struct {
		b    []byte
		want api.Errno
	}{
		{change(func(x *file) {}), api.OK},
		{change(func(x *file) { x.sum++ }), api.ErrSum},
		{change(func(x *file) { x.plain++ }), api.ErrForm},
		{change(func(x *file) { x.plain-- }), api.ErrForm},
		{change(func(x *file) { x.plain++; x.sum++ }), api.ErrForm},
		{change(func(x *file) { x.data += "\x00" }), api.ErrForm},
		{change(func(x *file) { x.data += "\x00"; x.plain++; x.sum++ }), api.ErrForm},
		{change(func(x *file) { x.data = x.data[:len(x.data)-1] }), api.ErrEnd},
		{change(func(x *file) { x.data = "" }), api.ErrEnd},
		{change(func(x *file) { x.data = "\x07" }), api.ErrForm},
		{change(func(x *file) { x.data = "\x01\x01\x00\xfe\xff" }), api.ErrEnd},
		{change(func(x *file) { x.data = "\x01\x01\x00\xff\xff!" }), api.ErrForm},
		{change(func(x *file) { x.data = "\x4b\x04\x00" }), api.ErrForm},
		{change(func(x *file) { x.data, x.plain = "\x4b\x04\x00", 1 }), api.ErrSum},
		{change(func(x *file) { x.data, x.plain, x.sum = "\x4b\x04\x00", 1, sumOf("a") }), api.OK},
		{change(func(x *file) { x.method, x.plain = 0, len(x.data) }), api.ErrSum},
		{change(func(x *file) { x.method, x.plain, x.sum = 0, len(x.data), sumOf(x.data) }), api.OK},
	} {
		e, _ := wantSame(t, c.b, wide)
		if e != c.want {
			t.Errorf("%d: errno %d, want %d", i, e, c.want)
		}
	}
	wrong := stored("a", "1")
	wrong.sum = 0
	wantDeepFault(t, lay(wrong).b, api.ErrSum)
	wrong.data, wrong.plain, wrong.sum = "", 0, 1
	wantDeepFault(t, lay(wrong).b, api.ErrSum)
}

// Row by row: what comes ahead is told first, and heads ahead of all bytes.
func TestBytesInOrder(t *testing.T) {
	wrongSum, wrongForm, tooMany := stored("s", "1"), packed("f", "22"), stored("m", strings.Repeat("m", 100))
	wrongSum.sum++
	wrongForm.plain++
	few := zipr.Limits{Bytes: 10000, Entries: 10, Total: 99}
	wantErrnos(t, lay(wrongSum, wrongForm, tooMany).b, few, api.ErrSum, api.OK)
	wantErrnos(t, lay(wrongForm, tooMany, wrongSum).b, few, api.ErrForm, api.OK)
	wantErrnos(t, lay(tooMany, wrongSum, wrongForm).b, few, api.ErrLimit, api.OK)
	tooMany.sum++
	wantErrnos(t, lay(tooMany, wrongForm).b, few, api.ErrLimit, api.OK)
	x := lay(wrongSum, stored("last", "2"))
	wantDeepFault(t, x.changed(x.heads[1], "!"), api.ErrForm)
	wantDeepFault(t, x.b, api.ErrSum)
}

// P9.1: NameFault and Fold

func someNames() []string {
	return []string{
		"a", "a/b", "a/b/", "a/", "/", "//", "/a", "a//b", "a//", ".", "..", "...", "./a", "../a", "a/.", "a/..", "a/./b", "a/../b", "a/./", "a/../", "a/...", ".a", "a.", "..a", "a..", "a/.b/c.",
		"a\\b", "\\", "a\x1f", "\x00", "a\nb", " ", "~", "a\x7f", "\x80", "é", "\xff", "\xc3", "\xc3\x28", "\xa9", "\xc0\xaf", "\xed\xa0\x80", "\xed\x9f\xbf", "\xee\x80\x80", "\xf4\x8f\xbf\xbf", "\xf4\x90\x80\x80", "\xef\xbf\xbd", "\xe2\x82", "日本/語", "a:b", "a*?b", "%2e%2e", "\xf0\x9f\x98\x80",
	}
}

func wantNameFault(t *testing.T, name string) {
	t.Helper()
	for _, utf := range []bool{false, true} {
		if x := zipr.NameFault(name, utf); x != slowNameFault(name, utf) {
			t.Fatalf("NameFault of %q, %v: %v", name, utf, x)
		}
	}
}

func TestNameFaults(t *testing.T) {
	for name, want := range map[string]bool{"": true, "a": false, "a/b": false, "a/": false, "/": true, "/a": true, "a//b": true, "a//": true, ".": true, "..": true, "...": false, "a/.": true, "../a": true, "a/../": true, "a\\b": true, "a\x1f": true, "a ": false, "\x7f": true} {
		if zipr.NameFault(name, false) != want || zipr.NameFault(name, true) != want {
			t.Errorf("%q: want %v", name, want)
		}
	}
	for name, want := range map[string]bool{"é": false, "日/本": false, "\xff": true, "\xc3": true, "\xed\xa0\x80": true, "\xc0\x80": true, "\xf4\x90\x80\x80": true} {
		if !zipr.NameFault(name, false) || zipr.NameFault(name, true) != want {
			t.Errorf("%q: want %v", name, want)
		}
	}
	for _, name := range someNames() {
		wantNameFault(t, name)
	}
}

func TestNameFaultOfBytes(t *testing.T) {
	for c := range 256 {
		one := string([]byte{byte(c)})
		for _, name := range []string{one, "a" + one, one + "a", "a" + one + "b/c", "a/" + one, "é" + one} {
			wantNameFault(t, name)
		}
	}
	for r := range rune(0x11000) {
		if name := string(r); utf8.ValidRune(r) && r > 127 && (zipr.NameFault(name, true) || !zipr.NameFault(name, false)) {
			t.Fatalf("sign %x", r)
		}
	}
}

func TestNameFaultOfLengths(t *testing.T) {
	for n := 250; n < 260; n++ {
		for _, part := range []string{"n", "a/", "é", "ab.", "日"} {
			name := strings.Repeat(part, 260)
			wantNameFault(t, name[:n])
			wantNameFault(t, name[:n-1]+"/")
		}
	}
	wantNameFault(t, strings.Repeat("n", 70000))
}

// All names of up to six of some bytes.
func TestNameFaultOfAll(t *testing.T) {
	var grow func(name string, n int)
	grow = func(name string, n int) {
		wantNameFault(t, name)
		if n == 0 {
			return
		}
		for _, c := range []string{"/", ".", "a", "\\", "é"} {
			grow(name+c, n-1)
		}
	}
	grow("", 6)
}

func TestFolds(t *testing.T) {
	for name, want := range map[string]string{"": "", "ABCXYZ": "abcxyz", "abc": "abc", "ÀZaz": "Àzaz", "@[`{": "@[`{", "A\xffB": "a\xffb", "\xc3A": "\xc3a", "K\u212a": "k\u212a", "İI": "İi", "0A/9.Z": "0a/9.z"} {
		if x := zipr.Fold(name); x != want {
			t.Errorf("Fold of %q: %q", name, x)
		}
	}
	var all []byte
	for c := range 256 {
		one := string([]byte{byte(c)})
		if x := zipr.Fold(one); x != slowFold(one) {
			t.Errorf("Fold of %q: %q", one, x)
		}
		all = append(all, byte(c))
	}
	if x := zipr.Fold(string(all)); x != slowFold(string(all)) || zipr.Fold(x) != x {
		t.Errorf("%q", x)
	}
	if x := zipr.Fold(strings.Repeat("Q", 70000)); x != strings.Repeat("q", 70000) {
		t.Error(len(x))
	}
}

// P9.2: limits

func TestLimitOfBytes(t *testing.T) {
	for _, x := range []laid{lay(), lay(stored("a", "1")), layBehind("ahead", "remark", someFiles()...)} {
		for _, n := range append([]int{0, 1, 22, len(x.b) - 1, len(x.b), len(x.b) + 1}, farNumbers...) {
			want := api.OK
			if n < len(x.b) {
				want = api.ErrLimit
			}
			wantErrnos(t, x.b, zipr.Limits{Bytes: n, Entries: 100, Total: 10000}, want, want)
		}
	}
	for _, n := range append(farNumbers, 0) {
		wantErrnos(t, nil, zipr.Limits{Bytes: n, Entries: n, Total: n}, api.ErrForm, api.ErrForm)
	}
	wantErrnos(t, []byte("no archive"), zipr.Limits{Bytes: 9}, api.ErrLimit, api.ErrLimit)
	wantErrnos(t, []byte("no archive"), zipr.Limits{Bytes: 10}, api.ErrForm, api.ErrForm)
}

func TestLimitOfEntries(t *testing.T) {
	for size := range 5 {
		x := lay(someFiles()[:size]...)
		for _, n := range append([]int{0, 1, 2, 3, 4, 5}, farNumbers...) {
			want := api.OK
			if n < size && size > 0 {
				want = api.ErrLimit
			}
			wantErrnos(t, x.b, zipr.Limits{Bytes: 10000, Entries: n, Total: 10000}, want, want)
		}
	}
}

func TestLimitOfTotal(t *testing.T) {
	x := lay(stored("a", "12"), packed("b", strings.Repeat("b", 1000)), stored("dir/", ""), stored("c", "345").late(""), packed("d", "d"), packed("e", ""))
	total := 2 + 1000 + 3 + 1
	for _, n := range append([]int{0, 1, 2, 3, 1001, 1002, 1003, 1004, 1005, 1006, 1007, 1 << 20}, farNumbers...) {
		want := api.OK
		if n < total {
			want = api.ErrLimit
		}
		wantErrnos(t, x.b, zipr.Limits{Bytes: 10000, Entries: 10, Total: n}, want, api.OK)
		wantSame(t, x.b, zipr.Limits{Bytes: 10000, Entries: 10, Total: n})
	}
	for _, n := range append(farNumbers, 0) {
		wantErrnos(t, lay(stored("dir/", ""), packed("e", "")).b, zipr.Limits{Bytes: 10000, Entries: 2, Total: n}, api.OK, api.OK)
	}
}

// wantMemory asks whether a call makes at most so many bytes of memory.
func wantMemory(t *testing.T, most uint64, call func()) {
	t.Helper()
	var ahead, behind runtime.MemStats
	runtime.ReadMemStats(&ahead)
	call()
	runtime.ReadMemStats(&behind)
	if n := behind.TotalAlloc - ahead.TotalAlloc; n > most {
		t.Errorf("%d bytes of memory", n)
	}
}

// Bytes that tell many more than they are, up to the limit and no further.
func TestMillionNoughts(t *testing.T) {
	many := strings.Repeat("\x00", 1000000)
	f := packed("zero", many)
	x := lay(f, stored("b", "2"))
	wantErrnos(t, x.b, zipr.Limits{Bytes: 10000, Entries: 2, Total: 1000}, api.ErrLimit, api.OK)
	wantErrnos(t, x.b, zipr.Limits{Bytes: 10000, Entries: 2, Total: 1000000}, api.ErrLimit, api.OK)
	wantErrnos(t, x.b, zipr.Limits{Bytes: 10000, Entries: 2, Total: 1000001}, api.OK, api.OK)
	// What the row tells doesn't count until all is unpacked.
	f.plain = 1
	wantErrnos(t, lay(f).b, zipr.Limits{Bytes: 10000, Entries: 2, Total: 1000}, api.ErrLimit, api.OK)
	wantErrnos(t, lay(f).b, zipr.Limits{Bytes: 10000, Entries: 2, Total: 1000000}, api.ErrForm, api.OK)
	wantMemory(t, 300000, func() { zipr.Read(x.b, zipr.Limits{Bytes: 10000, Entries: 2, Total: 1000}) })
}

// Many rows, whose heads stand within one another's extras: they are looked at in a
// short while, and in little memory.
func TestManyRows(t *testing.T) {
	const many = 20000
	var list []file
	for i := range many {
		list = append(list, stored(fmt.Sprintf("n%d", i), "."))
	}
	x := lay(list...)
	entries, e := zipr.Read(x.b, wide)
	if e != api.OK || len(entries) != many || entries[many-1].Name != list[many-1].name {
		t.Fatal(len(entries), e)
	}
	for _, at := range x.heads[:many/2] {
		copy(x.b[at+28:], u16(65535))
	}
	wantDeepFault(t, x.b, api.ErrClash)
	wantMemory(t, 200000000, func() { zipr.Read(x.b, wide) })
	wantErrnos(t, x.b, zipr.Limits{Bytes: len(x.b), Entries: many - 1}, api.ErrLimit, api.ErrLimit)
}

// P9.2: memory

func TestNothingIsChanged(t *testing.T) {
	x := layBehind("", "remark", someFiles()...)
	all := slices.Concat(x.b, []byte("behind the length"))
	kept := bytes.Clone(all)
	b := all[:len(x.b)]
	for range 2 {
		list, _ := zipr.Read(b, wide)
		rows, _ := zipr.Rows(b, wide)
		for i := range list {
			scribble(list[i].Data)
			scribble(rows[i].Remark)
		}
		if !bytes.Equal(all, kept) {
			t.Fatal("bytes are changed")
		}
	}
	for at := range b {
		b[at] ^= 255
		zipr.Read(b, wide)
		zipr.Rows(b, wide)
		b[at] ^= 255
	}
	if !bytes.Equal(all, kept) {
		t.Error("bytes are changed")
	}
}

// scribble writes to all of a list, and to the room behind it.
func scribble(b []byte) {
	b = b[:cap(b)]
	for i := range b {
		b[i] ^= 255
	}
}

func TestAnswersAreNewMemory(t *testing.T) {
	x := layBehind("", "remark", someFiles()...)
	kept := bytes.Clone(x.b)
	entries, _ := slowRead(kept, wide)
	rows, _ := slowRows(kept, wide)
	for i := range entries {
		b := bytes.Clone(kept)
		someEntries, _ := zipr.Read(b, wide)
		someRows, _ := zipr.Rows(b, wide)
		// Neither what is written to one answer nor what to the bytes is seen in another.
		scribble(someEntries[i].Data)
		scribble(someRows[i].Remark)
		scribble(b)
		for j := range entries {
			if j != i && !(sameEntry(someEntries[j], entries[j]) && sameRow(someRows[j], rows[j])) {
				t.Errorf("%d is changed with %d", j, i)
			}
		}
	}
	one, _ := zipr.Read(kept, wide)
	other, _ := zipr.Read(kept, wide)
	for i := range one {
		scribble(one[i].Data)
	}
	clear(one[:cap(one)])
	if !slices.EqualFunc(other, entries, sameEntry) {
		t.Error("two answers share memory")
	}
}

// P1, and all of the chapter, of archives with faults

// someArchives: short archives of all kinds.
func someArchives() []laid {
	all := someFiles()
	return []laid{
		lay(), layBehind("x", "y"), lay(stored("a", "hello"), stored("b", "you")), lay(packed("a", "hello, hello"), stored("b/", "")),
		lay(stored("a", "1").late(""), packed("B", "22").late(sumsSign)), lay(packed("é", "e").flagged(isUTF).extras("ab", "c"), stored("c", "").extras("d", "")),
		layBehind("ahead", "remark", all[2], all[9], all[12], all[13]), lay(stored("a", stored("b", "x").head()), stored("c", "c")),
	}
}

// edges are numbers that fields may have.
var edges = []string{u16(0), u16(1), u16(2), u16(8), u16(10), u16(2048), u16(65534), u16(65535), u32(0), u32(1), u32(30), u32(31), u32(65536), u32(4294967294), u32(4294967295), headSign, rowSign, endSign, sumsSign, "/", "A", ".", "\\", "\x80"}

// wantSeen asks whether there was each of some errors.
func wantSeen(t *testing.T, seen map[api.Errno]int, list ...api.Errno) {
	t.Helper()
	for _, e := range list {
		if seen[e] == 0 {
			t.Errorf("no errno %d", e)
		}
	}
}

// nextTo: bytes that are a little, or all, unlike one.
func nextTo(c byte) []string {
	var list []string
	for _, x := range []byte{c + 1, c - 1, c ^ 8, ^c} {
		list = append(list, string([]byte{x}))
	}
	return list
}

func TestEachByteChanged(t *testing.T) {
	seen := map[api.Errno]int{}
	for _, x := range someArchives() {
		for at := range x.b {
			for _, to := range slices.Concat(nextTo(x.b[at]), edges) {
				if len(x.b)-at >= len(to) {
					e, _ := wantSame(t, x.changed(at, to), wide)
					seen[e]++
				}
			}
		}
	}
	wantSeen(t, seen, api.OK, api.ErrForm, api.ErrMethod, api.ErrName, api.ErrThere, api.ErrEnd, api.ErrSum)
}

func TestBytesTakenAndPut(t *testing.T) {
	for _, x := range someArchives() {
		for at := range len(x.b) + 1 {
			wantSame(t, x.b[:at], wide)
			wantSame(t, x.b[at:], wide)
			wantSame(t, with(x.b, at, "\x00"), wide)
			wantSame(t, with(x.b, at, sumsSign), wide)
			for n := 1; n < 6 && at+n <= len(x.b); n++ {
				wantSame(t, without(x.b, at, n), wide)
			}
		}
	}
}

// Several changes at once, and any limits.
func TestManyChanges(t *testing.T) {
	s := &numbers{13579}
	list := someArchives()
	seen := map[api.Errno]int{}
	for range 60000 {
		x := list[s.below(len(list))]
		b := bytes.Clone(x.b)
		for range 1 + s.below(3) {
			at := s.below(len(b))
			// What rows tell is changed more often than other bytes.
			if len(x.rows) > 0 && s.below(2) == 0 {
				at = x.rows[s.below(len(x.rows))] + s.below(50)
			}
			copy(b[min(at, len(b)):], edges[s.below(len(edges))])
		}
		l := zipr.Limits{Bytes: len(b) - 3 + s.below(60), Entries: s.below(8) - 1, Total: s.below(200) - 1}
		e, _ := wantSame(t, b, l)
		seen[e]++
	}
	wantSeen(t, seen, api.OK, api.ErrForm, api.ErrMethod, api.ErrName, api.ErrThere, api.ErrEnd, api.ErrSum, api.ErrLimit)
}

// Archives whose rows lead to any places, so that what they have clashes or not.
func TestAnyPlaces(t *testing.T) {
	s := &numbers{86420}
	seen := map[api.Errno]int{}
	for range 20000 {
		var heads string
		var files []file
		var places []int
		for i := range 2 + s.below(3) {
			f := stored(strings.Repeat(string(rune('a'+i)), 1+s.below(2)), strings.Repeat(".", s.below(3)))
			if len(files) > 0 && s.below(3) == 0 {
				// The last one's head stands in the bytes of this one.
				in := files[len(files)-1]
				f = stored(f.name, in.head())
				places[len(places)-1] = len(heads) + 30 + len(f.name)
			}
			if s.below(3) == 0 {
				f = f.late([]string{"", sumsSign}[s.below(2)])
			}
			places = append(places, len(heads))
			files = append(files, f)
			heads += f.head() + strings.Repeat("-", s.below(2))
		}
		var rows []string
		for i, f := range files {
			if s.below(8) > 0 {
				rows = append(rows, f.row(places[i]-s.below(20)/19))
			}
		}
		e, _ := wantSame(t, layParts(heads, rows...), wide)
		seen[e]++
	}
	wantSeen(t, seen, api.OK, api.ErrClash, api.ErrForm)
}

// Bytes in no order, and such with signs in them.
func TestAnyBytes(t *testing.T) {
	s := &numbers{424242}
	pieces := append([]string{endOf(0, 0, 0, ""), endOf(1, 47, 0, "")}, edges...)
	for range 30000 {
		var b []byte
		for range s.below(30) {
			b = append(b, pieces[s.below(len(pieces))]...)
		}
		wantSame(t, b, wide)
	}
}

func FuzzRead(f *testing.F) {
	for _, x := range someArchives() {
		f.Add(x.b, 1000, 5, 300)
	}
	f.Fuzz(func(t *testing.T, b []byte, size, entries, total int) {
		wantSame(t, b, zipr.Limits{Bytes: size, Entries: entries, Total: min(total, 1<<20)})
	})
}

// The bytes of an archive whose entries are packed at each level.
func TestLevels(t *testing.T) {
	text := strings.Repeat("one and the other, ", 400)
	for level := range 10 {
		f := packed("a", text)
		f.data = string(deflate.Deflate([]byte(text), level))
		wantEntries(t, lay(f).b, zipr.Entry{Name: "a", Data: []byte(text), Method: 8})
	}
}
