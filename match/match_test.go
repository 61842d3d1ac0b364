package match_test

import (
	"bytes"
	"math"
	"slices"
	"strings"
	"testing"

	"etui/api"
	"etui/match"
)

const window = 32768

// farNumbers are no levels, no lengths, no distances and no places; as limits some
// of them are great ones.
var farNumbers = []int{-1, -2, -258, -32768, -1 << 31, -1 << 32, math.MinInt, math.MinInt + 1, 1 << 31, 1 << 32, 1 << 62, math.MaxInt - 1, math.MaxInt}

// levels are all levels, and others.
var levels = append([]int{0, 1, 2, 3, 4, 5, 6, 7, 8, 9, 10, 11, 100}, farNumbers...)

// numbers are numbers in no order, the same ones each time.
type numbers struct{ x uint32 }

func (s *numbers) below(n int) int {
	s.x = s.x*1664525 + 1013904223
	return int(s.x>>8) % n
}

// anyBytes: n bytes, each one of so many.
func (s *numbers) anyBytes(n, kinds int) []byte {
	b := make([]byte, n)
	for i := range b {
		b[i] = byte(s.below(kinds))
	}
	return b
}

// singles: bytes as tokens, and others behind them.
func singles(text string, behind ...match.Token) []match.Token {
	var list []match.Token
	for _, c := range []byte(text) {
		list = append(list, match.Token{Lit: c})
	}
	return append(list, behind...)
}

// back: a copy.
func back(n, dist int) match.Token { return match.Token{Len: n, Dist: dist} }

// unlike: n bytes below 16 of which no four in a row stand twice, up to 16^4: row by
// row all words of one, two or four letters that aren't a later part of themselves.
func unlike(n int) []byte {
	var out []byte
	word := make([]byte, 5)
	var grow func(t, p int)
	grow = func(t, p int) {
		if t > 4 {
			if 4%p == 0 {
				out = append(out, word[1:p+1]...)
			}
			return
		}
		word[t] = word[t-p]
		grow(t+1, p)
		for c := word[t-p] + 1; c < 16; c++ {
			word[t] = c
			grow(t+1, t)
		}
	}
	grow(1, 1)
	return out[:n]
}

// apart: a text, and again so far behind its place; no other four bytes stand twice.
func apart(text string, dist int) []byte {
	return slices.Concat([]byte(text), unlike(dist-len(text)), []byte(text))
}

// firstOfFour: the first place of four bytes that stood within the window ahead, or
// -1. (Of those ahead the last ones are the nearest.)
func firstOfFour(b []byte) int {
	last := map[[4]byte]int{}
	for at := 0; at+4 <= len(b); at++ {
		four := [4]byte(b[at : at+4])
		if place, ok := last[four]; ok && at-place <= window {
			return at
		}
		last[four] = at
	}
	return -1
}

// wantTokens asks whether Find answers what the chapter tells, and answers that.
func wantTokens(t *testing.T, b []byte, level int) []match.Token {
	t.Helper()
	list := match.Find(b, level)
	if len(list) > len(b) {
		t.Fatalf("%d bytes, level %d: %d tokens", len(b), level, len(list))
	}
	var out []byte
	copies := map[int]int{}
	for _, k := range list {
		isByte := k.Len == 0 && k.Dist == 0
		isCopy := k.Len >= 3 && k.Len <= 258 && k.Dist >= 1 && k.Dist <= window && k.Lit == 0 && k.Dist <= len(out)
		if !isByte && !isCopy || isCopy && level <= 0 {
			t.Fatalf("%d bytes, level %d: %v at %d", len(b), level, k, len(out))
		}
		if isByte {
			out = append(out, k.Lit)
			continue
		}
		copies[len(out)] = k.Len
		for range k.Len {
			out = append(out, out[len(out)-k.Dist])
		}
	}
	if !bytes.Equal(out, b) {
		t.Fatalf("%d bytes, level %d: others are told", len(b), level)
	}
	if first := firstOfFour(b); level > 0 && first >= 0 && copies[first] < 4 {
		t.Fatalf("%d bytes, level %d: no copy of four at %d", len(b), level, first)
	}
	return list
}

// wantFirst asks at each level for what the chapter tells, where the first place of
// four bytes that stood ahead is known.
func wantFirst(t *testing.T, b []byte, first int) {
	t.Helper()
	if n := firstOfFour(b); n != first {
		t.Fatalf("%d bytes: four at %d, want %d", len(b), n, first)
	}
	for level := 1; level <= 9; level++ {
		wantTokens(t, b, level)
	}
}

// someTexts: bytes of all kinds.
func someTexts() [][]byte {
	s := &numbers{97531}
	words := strings.Repeat("the first of these, and the other one; ", 1500)
	list := [][]byte{
		nil, {}, {0}, []byte("a"), []byte("aa"), []byte("aaa"), []byte("aaaa"), []byte("aaaaa"), []byte("abcabc"), []byte("abcabca"), []byte("abcdabcd"), []byte(words),
		make([]byte, 258), make([]byte, 259), make([]byte, 260), make([]byte, 517), make([]byte, 100000), s.anyBytes(70000, 256), s.anyBytes(20000, 2), s.anyBytes(40000, 4), s.anyBytes(50000, 20),
		unlike(65536), slices.Concat(s.anyBytes(40000, 256), []byte(words)), slices.Repeat(unlike(100), 700), slices.Concat(unlike(40000), unlike(40000)),
	}
	for range 60 {
		list = append(list, s.anyBytes(s.below(900), 1+s.below(30)))
	}
	return list
}

// P7.1

func TestFindTellsTheBytes(t *testing.T) {
	for _, b := range someTexts() {
		for level := -1; level <= 10; level++ {
			wantTokens(t, b, level)
		}
	}
}

// All texts of up to twelve bytes of two kinds, and of up to eight of three.
func TestFindOfAllShortTexts(t *testing.T) {
	var all func(ahead []byte, kinds, most int)
	all = func(ahead []byte, kinds, most int) {
		for level := 0; level <= 9; level++ {
			wantTokens(t, ahead, level)
		}
		for c := 0; c < kinds && len(ahead) < most; c++ {
			all(append(slices.Clone(ahead), byte(c)), kinds, most)
		}
	}
	all(nil, 2, 12)
	all(nil, 3, 8)
}

func TestFindAtEachLevel(t *testing.T) {
	s := &numbers{31}
	for _, b := range [][]byte{nil, []byte("abcabcabc"), make([]byte, 600), s.anyBytes(3000, 3), unlike(500)} {
		for _, level := range levels {
			list := wantTokens(t, b, level)
			if nearer := match.Find(b, min(max(level, 0), 9)); !slices.Equal(list, nearer) {
				t.Errorf("%d bytes, level %d: not that of the nearer one", len(b), level)
			}
			if level <= 0 && len(list) != len(b) {
				t.Errorf("%d bytes, level %d: %d tokens", len(b), level, len(list))
			}
		}
	}
}

func TestFindAtTheEndOfTheWindow(t *testing.T) {
	for _, text := range []string{"wxyz", "vwxyz", "a needle", "another needle"} {
		for dist := window - 2; dist <= window+2; dist++ {
			first := dist
			if dist > window {
				first = -1
			}
			wantFirst(t, apart(text, dist), first)
		}
	}
}

// Of three bytes that stood at many places, only one has the fourth.
func TestFindBehindManyLikeOnes(t *testing.T) {
	var ahead []byte
	for c := 16; c < 256; c++ {
		ahead = append(ahead, 1, 2, 3, byte(c))
	}
	for c := 16; c < 256; c++ {
		wantFirst(t, append(slices.Clone(ahead), 1, 2, 3, byte(c)), len(ahead))
	}
}

// Three bytes that stood ahead reach over the first place of four.
func TestFindBehindThreeLikeOnes(t *testing.T) {
	for _, c := range []struct {
		text  string
		first int
	}{
		{"abc-bcde+abcde", 10}, {"abc-cdef+abcdef", 11}, {"bcdefghi+abcx-abcdefghi", 15}, {"aaab-aaac+aaaac", 11}, {"xabcy-xbcdz+xabcdz", 12}, {"abc-abd+abe.abc-", 12},
		{"aab-aac+aab-", 8}, {"aXbXcXdXeX", -1}, {"abc abd abe abf", -1}, {"abcabc", -1}, {"abcabcab", 3}, {"aaaa", -1}, {"aaaaa", 1}, {"abcd", -1},
	} {
		wantFirst(t, []byte(c.text), c.first)
	}
}

// Four bytes stand again at the very end, and right behind themselves.
func TestFindAtTheEnd(t *testing.T) {
	for n := range 40 {
		ahead := unlike(n)
		for _, behind := range []string{"wxyzwxyz", "wxyz-wxyz", "zzzz", "zzzzz", "wxwxwx"} {
			b := append(slices.Clone(ahead), behind...)
			for level := 1; level <= 9; level++ {
				list := wantTokens(t, b, level)
				if firstOfFour(b) >= 0 && list[len(list)-1].Len < 4 {
					t.Errorf("%d bytes, and %q, level %d: %v", n, behind, level, list)
				}
			}
		}
	}
}

// What comes again as a whole takes few tokens, and a greater level none too many.
func TestFindLooksHarder(t *testing.T) {
	words := []byte(strings.Repeat("the first of these, and the other one; ", 300))
	for level := 1; level <= 9; level++ {
		if n := len(wantTokens(t, words, level)); n > 200 {
			t.Errorf("level %d: %d tokens", level, n)
		}
		if n := len(wantTokens(t, make([]byte, 258*100+1), level)); n != 101 {
			t.Errorf("level %d: %d tokens", level, n)
		}
	}
	b := (&numbers{5}).anyBytes(100000, 3)
	if easy, hard := len(wantTokens(t, b, 1)), len(wantTokens(t, b, 9)); hard >= easy {
		t.Errorf("%d tokens at level 1, %d at 9", easy, hard)
	}
}

func TestFindOfManyBytes(t *testing.T) {
	s := &numbers{8080}
	for _, b := range [][]byte{make([]byte, api.MaxBytes), s.anyBytes(1<<20, 256), s.anyBytes(1<<19, 2)} {
		for _, level := range []int{1, 9} {
			wantTokens(t, b, level)
		}
	}
}

// P7.2

// slowExpand: what tokens tell, token by token.
func slowExpand(list []match.Token, limit int) (string, api.Errno) {
	var out []byte
	for _, k := range list {
		isByte := k.Len == 0 && k.Dist == 0
		isCopy := 3 <= k.Len && k.Len <= 258 && 1 <= k.Dist && k.Dist <= 32768 && k.Lit == 0
		switch {
		case !isByte && !isCopy, isCopy && k.Dist > len(out):
			return "", api.ErrForm
		case isByte:
			out = append(out, k.Lit)
		default:
			row := out[len(out)-k.Dist:]
			out = append(out, bytes.Repeat(row, 258)[:k.Len]...)
		}
		if len(out) > limit {
			return "", api.ErrLimit
		}
	}
	return string(out), api.OK
}

// wantBytes asks for bytes, or for an error and nothing beside it.
func wantBytes(t *testing.T, list []match.Token, limit int, want string, wantErrno api.Errno) {
	t.Helper()
	if b, e := match.Expand(list, limit); string(b) != want || e != wantErrno {
		t.Errorf("%v, limit %d: %q, errno %d, want %q, errno %d", list, limit, b, e, want, wantErrno)
	}
}

func TestExpandTheExample(t *testing.T) {
	wantBytes(t, singles("a", back(5, 1)), 6, "aaaaaa", api.OK)
}

func TestExpand(t *testing.T) {
	for _, c := range []struct {
		list []match.Token
		want string
	}{
		{nil, ""}, {[]match.Token{}, ""}, {[]match.Token{{}}, "\x00"}, {singles("a\x00\xff"), "a\x00\xff"}, {singles("abc", back(3, 3)), "abcabc"},
		{singles("ab", back(5, 2)), "abababa"}, {singles("abcd", back(3, 4), back(4, 5)), "abcdabccdab"}, {singles("abc", back(258, 3)), strings.Repeat("abc", 87)},
		{append(singles("ab", back(4, 1)), singles("c", back(3, 7))...), "abbbbbcabb"},
	} {
		for _, limit := range []int{len(c.want), len(c.want) + 1, 1 << 40, math.MaxInt} {
			wantBytes(t, c.list, limit, c.want, api.OK)
		}
		for limit := range len(c.want) {
			wantBytes(t, c.list, limit, "", api.ErrLimit)
		}
		if c.want != "" {
			wantBytes(t, c.list, -1, "", api.ErrLimit)
		}
	}
}

// All rows of up to four tokens of some, right ones and others, by each limit.
func TestExpandOfAllShortRows(t *testing.T) {
	some := []match.Token{{Lit: 'a'}, {Lit: 'b'}, back(3, 1), back(4, 2), back(3, 4), {Lit: 'a', Dist: 1}, {Lit: 'a', Len: 3, Dist: 1}, back(2, 1), back(3, 0)}
	var all func(ahead []match.Token)
	all = func(ahead []match.Token) {
		for limit := -1; limit <= 12; limit++ {
			want, e := slowExpand(ahead, limit)
			wantBytes(t, ahead, limit, want, e)
		}
		for i := 0; i < len(some) && len(ahead) < 4; i++ {
			all(append(slices.Clone(ahead), some[i]))
		}
	}
	all(nil)
}

func TestExpandOfNoTokens(t *testing.T) {
	far := slices.Concat(farNumbers, []int{1, 2, 259, 260, 1 << 15, 1 << 16, 257 << 32, 1<<32 + 3})
	for _, n := range far {
		for _, limit := range []int{-1, 0, 2, 1000, math.MaxInt} {
			want := api.ErrForm
			if limit < 2 {
				want = api.ErrLimit // of the first byte
			}
			wantBytes(t, singles("ab", back(n, 1)), limit, "", want)
			wantBytes(t, singles("ab", back(n, 0)), limit, "", want)
			wantBytes(t, []match.Token{back(n, 1)}, limit, "", api.ErrForm)
			wantBytes(t, []match.Token{back(n, n)}, limit, "", api.ErrForm)
		}
	}
	for _, dist := range append(farNumbers, 0, 3, 4, 32767, 32768, 32769, 1<<32+1) {
		wantBytes(t, singles("ab", back(3, dist)), 100, "", api.ErrForm)
		wantBytes(t, singles("ab", match.Token{Lit: 'a', Dist: dist | 1}), 100, "", api.ErrForm)
	}
	for lit := 1; lit < 256; lit++ {
		wantBytes(t, singles("ab", match.Token{Lit: byte(lit), Len: 3, Dist: 1}), 100, "", api.ErrForm)
		wantBytes(t, []match.Token{{Lit: byte(lit)}}, 100, string([]byte{byte(lit)}), api.OK)
	}
}

func TestExpandAtEachLengthAndDistance(t *testing.T) {
	ahead := unlike(40000)
	for n := -1; n <= 262; n++ {
		list := singles(string(ahead[:300]), back(n, 300))
		if n < 3 || n > 258 {
			wantBytes(t, list, 1000, "", api.ErrForm)
		} else {
			wantBytes(t, list, 1000, string(ahead[:300])+string(ahead[:n]), api.OK)
		}
	}
	for _, have := range []int{1, 2, 255, 256, 257, 258, 32766, 32767, 32768, 32769, 40000} {
		for _, dist := range []int{1, have - 1, have, have + 1, 32767, 32768, 32769} {
			list := singles(string(ahead[:have]), back(258, dist))
			want, e := slowExpand(list, math.MaxInt)
			if right := dist >= 1 && dist <= min(have, window); right != (e == api.OK) {
				t.Fatal(have, dist, e)
			}
			wantBytes(t, list, have+258, want, e)
		}
	}
}

func TestExpandAtTheLimit(t *testing.T) {
	a := singles("a", back(258, 1), back(258, 1))
	for limit, want := range map[int]api.Errno{-1: api.ErrLimit, 0: api.ErrLimit, 1: api.ErrLimit, 258: api.ErrLimit, 259: api.ErrLimit, 516: api.ErrLimit, 517: api.OK, math.MinInt: api.ErrLimit} {
		text := strings.Repeat("a", 517)
		if want != api.OK {
			text = ""
		}
		wantBytes(t, a, limit, text, want)
	}
	for _, limit := range farNumbers {
		wantBytes(t, nil, limit, "", api.OK)
	}
	// The first token at which there is a fault tells it, and ErrForm is asked first.
	wantBytes(t, singles("ab", back(5, 3)), 6, "", api.ErrForm)
	wantBytes(t, singles("ab", back(5, 2), back(2, 1)), 6, "", api.ErrLimit)
	wantBytes(t, singles("ab", back(2, 1), back(5, 2)), 1, "", api.ErrLimit)
	wantBytes(t, singles("ab", back(2, 1), back(5, 2)), 2, "", api.ErrForm)
	wantBytes(t, []match.Token{back(3, 1)}, -1, "", api.ErrForm)
}

// P7.3

// slowSame: how many bytes are those so far back, in any of them.
func slowSame(b []byte, at, dist, most int) int {
	if at < 0 || at >= len(b) || dist < 1 || dist > at || most < 1 {
		return 0
	}
	here, there := b[at:], b[at-dist:len(b)-dist]
	for n := range here {
		if n == most || here[n] != there[n] {
			return n
		}
	}
	return len(here)
}

func TestSame(t *testing.T) {
	s := &numbers{606}
	texts := [][]byte{nil, {7}, []byte("abababcab"), []byte("aaaaaaaaaa"), []byte("abcdefghij"), s.anyBytes(20, 2), s.anyBytes(20, 2)}
	for _, b := range texts {
		places := append([]int{len(b) + 2}, farNumbers...)
		for n := -2; n <= len(b)+1; n++ {
			places = append(places, n)
		}
		for _, at := range places {
			for _, dist := range places {
				for _, most := range places {
					if n, want := match.Same(b, at, dist, most), slowSame(b, at, dist, most); n != want {
						t.Fatalf("%q, at %d, dist %d, most %d: %d, want %d", b, at, dist, most, n, want)
					}
				}
			}
		}
	}
}

func TestSameAtItsBounds(t *testing.T) {
	for _, c := range []struct {
		text                 string
		at, dist, most, want int
	}{
		{"abababcab", 2, 2, 9, 4}, {"abababcab", 2, 2, 3, 3}, {"abababcab", 7, 7, 9, 2}, {"abababcab", 4, 4, 1, 1}, {"abababcab", 4, 4, 0, 0}, {"abababcab", 4, 4, -1, 0},
		{"abababcab", 0, 1, 9, 0}, {"abababcab", 0, 0, 9, 0}, {"abababcab", 9, 1, 9, 0}, {"abababcab", 8, 9, 9, 0}, {"abababcab", 8, 6, 9, 0}, {"abababcab", 8, 5, 9, 1}, {"abababcab", 2, 3, 9, 0},
		{"aaaa", 1, 1, math.MaxInt, 3}, {"aaaa", 3, 3, math.MaxInt, 1}, {"aaaa", 3, 4, math.MaxInt, 0}, {"aaaa", 4, 1, 1, 0}, {"", 0, 0, 1, 0}, {"ab", 1, 1, 1, 0},
	} {
		if n := match.Same([]byte(c.text), c.at, c.dist, c.most); n != c.want {
			t.Errorf("%q, at %d, dist %d, most %d: %d, want %d", c.text, c.at, c.dist, c.most, n, c.want)
		}
	}
	// A distance and a number of bytes above those of a copy count too.
	b := slices.Concat(unlike(40000), unlike(40000))
	if n := match.Same(b, 40000, 40000, math.MaxInt); n != 40000 {
		t.Errorf("%d", n)
	}
	if n := match.Same(make([]byte, 70000), 1, 1, 65000); n != 65000 {
		t.Errorf("%d", n)
	}
}

// within: bytes in the midst of others, and all of them.
func within(b []byte) (part, all []byte) {
	all = slices.Concat([]byte{9, 9}, b, b, []byte{8, 8})
	return all[2 : 2+len(b)], all
}

func TestWhatIsHandedInStays(t *testing.T) {
	for _, b := range someTexts() {
		part, all := within(b)
		kept := slices.Clone(all)
		for _, level := range []int{0, 1, 5, 9} {
			match.Find(part, level)
		}
		match.Same(part, 3, 2, 100)
		if !bytes.Equal(all, kept) {
			t.Fatalf("%d bytes: changed", len(b))
		}
		list := append(match.Find(b, 6), match.Token{Len: 3, Dist: 1}, match.Token{Lit: 7})
		keptList := slices.Clone(list)
		match.Expand(list[:len(list)-2], math.MaxInt)
		match.Expand(list[:len(list)-2], len(b)/2)
		if !slices.Equal(list, keptList) {
			t.Fatalf("%d bytes: tokens changed", len(b))
		}
	}
}

// spoil writes over a list, and behind its length.
func spoil[T any](list []T, with T) {
	list = list[:cap(list)]
	for i := range list {
		list[i] = with
	}
}

func TestAnswersAreNew(t *testing.T) {
	for _, b := range someTexts() {
		given := slices.Clone(b)
		for _, level := range []int{0, 1, 4, 9} {
			list := match.Find(given, level)
			again := match.Find(given, level)
			if !slices.Equal(list, again) {
				t.Fatalf("%d bytes, level %d: others the second time", len(b), level)
			}
			kept := slices.Clone(list)
			spoil(again, match.Token{Lit: 1, Len: 1, Dist: 1})
			out, e := match.Expand(list, len(b))
			outAgain, _ := match.Expand(list, len(b))
			spoil(outAgain, 0xee)
			if e != api.OK || !bytes.Equal(out, b) || !bytes.Equal(given, b) || !slices.Equal(list, kept) {
				t.Fatalf("%d bytes, level %d: one memory", len(b), level)
			}
			spoil(list, match.Token{Lit: 2, Len: 2, Dist: 2})
			if !bytes.Equal(out, b) {
				t.Fatalf("%d bytes, level %d: the bytes and the tokens are one memory", len(b), level)
			}
		}
		list := match.Find(given, 6)
		kept := slices.Clone(list)
		spoil(given, 0xee)
		if !slices.Equal(list, kept) {
			t.Fatalf("%d bytes: the tokens hang on the bytes", len(b))
		}
	}
}
