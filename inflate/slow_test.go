package inflate_test

import (
	"slices"
	"strings"

	"etui/api"
	"etui/inflate"
)

// slow reads packed bytes bit by bit, as the chapter tells it.
type slow struct {
	row           string // 0 and 1
	at            int
	out           []byte
	limit         int
	steps, blocks int
}

// slowCodes: symbols by their codes, and how many symbols' codes begin so.
type slowCodes struct {
	symbols map[string]int
	begins  map[string]int
}

// slowOf: the codes of lengths, and the room that they take.
func slowOf(lengths []int) (slowCodes, int) {
	c := slowCodes{map[string]int{}, map[string]int{}}
	code, room := 0, 0
	for n := 1; n <= 15; n++ {
		code *= 2
		for sym, length := range lengths {
			if length != n {
				continue
			}
			word := ""
			for i := n - 1; i >= 0; i-- {
				word += string(rune('0' + code>>i&1))
			}
			c.symbols[word] = sym
			for i := range word {
				c.begins[word[:i+1]]++
			}
			code++
			room += 32768 >> n
		}
	}
	return c, room
}

// The fixed codes, made once.
var slowFirst, slowOther = slowFixed()

func slowFixed() (first, other slowCodes) {
	var lengths []int
	for sym := range 288 {
		switch {
		case sym < 144, sym >= 144+112+24:
			lengths = append(lengths, 8)
		case sym < 144+112:
			lengths = append(lengths, 9)
		default:
			lengths = append(lengths, 7)
		}
	}
	first, _ = slowOf(lengths)
	other, _ = slowOf(slices.Repeat([]int{5}, 32))
	return first, other
}

// slowLengths: what the symbols from 257 on tell, and how many bits more.
func slowLengths() (bases, extras []int) {
	bases = []int{3, 4, 5, 6, 7, 8, 9, 10, 11, 13, 15, 17, 19, 23, 27, 31, 35, 43, 51, 59, 67, 83, 99, 115, 131, 163, 195, 227, 258}
	extras = []int{0, 0, 0, 0, 0, 0, 0, 0, 1, 1, 1, 1, 2, 2, 2, 2, 3, 3, 3, 3, 4, 4, 4, 4, 5, 5, 5, 5, 0}
	return bases, extras
}

// slowDistances: what the symbols of distances tell, and how many bits more.
func slowDistances() (bases, extras []int) {
	bases, extras = []int{1, 2, 3, 4}, []int{0, 0, 0, 0}
	begin := 5
	for n := 1; n <= 13; n++ {
		bases = append(bases, begin, begin+1<<n)
		extras = append(extras, n, n)
		begin = 2*(begin-1) + 1
	}
	return bases, extras
}

// slowInflate: what Inflate is to answer.
func slowInflate(b []byte, limit int) (x inflate.Result, e api.Errno) {
	var row strings.Builder
	for n := range len(b) * 8 {
		row.WriteByte('0' + b[n/8]>>(n%8)&1)
	}
	s := &slow{row: row.String(), limit: max(limit, 0)}
	defer func() {
		if p := recover(); p != nil {
			x, e = inflate.Result{}, p.(api.Errno)
		}
	}()
	for !s.block() {
	}
	used := s.at / 8
	if s.at%8 > 0 {
		used++
	}
	return inflate.Result{Out: s.out, Used: used, Steps: s.steps, Blocks: s.blocks}, api.OK
}

func (s *slow) number(n int) int {
	if s.at+n > len(s.row) {
		panic(api.ErrEnd)
	}
	v := 0
	for i := range n {
		v += int(s.row[s.at+i]-'0') << i
	}
	s.at += n
	return v
}

func (s *slow) next(c slowCodes) int {
	for n := 1; s.at+n <= len(s.row); n++ {
		word := s.row[s.at : s.at+n]
		if sym, ok := c.symbols[word]; ok {
			s.at += n
			return sym
		}
		if c.begins[word] == 0 {
			panic(api.ErrForm)
		}
	}
	panic(api.ErrEnd)
}

// block reads a block: was it the last one?
func (s *slow) block() bool {
	last := s.number(1)
	switch s.number(2) {
	case 0:
		s.stored()
	case 1:
		s.symbols(slowFirst, slowOther)
	case 2:
		s.told()
	case 3:
		panic(api.ErrForm)
	}
	s.blocks++
	return last == 1
}

func (s *slow) stored() {
	for s.at%8 > 0 {
		s.at++
	}
	n := s.number(16)
	if turned := s.number(16); n+turned != 65535 {
		panic(api.ErrForm)
	}
	if s.at+8*n > len(s.row) {
		panic(api.ErrEnd)
	}
	if len(s.out)+n > s.limit {
		panic(api.ErrLimit)
	}
	for range n {
		s.out = append(s.out, byte(s.number(8)))
		s.steps++
	}
}

func (s *slow) symbols(first, other slowCodes) {
	for {
		sym := s.next(first)
		s.steps++
		if sym == 256 {
			return
		}
		if sym < 256 {
			if len(s.out) >= s.limit {
				panic(api.ErrLimit)
			}
			s.out = append(s.out, byte(sym))
			continue
		}
		bases, extras := slowLengths()
		if sym-257 >= len(bases) {
			panic(api.ErrForm)
		}
		length := bases[sym-257] + s.number(extras[sym-257])
		bases, extras = slowDistances()
		sym = s.next(other)
		if sym >= len(bases) {
			panic(api.ErrForm)
		}
		distance := bases[sym] + s.number(extras[sym])
		if distance > len(s.out) {
			panic(api.ErrForm)
		}
		if len(s.out)+length > s.limit {
			panic(api.ErrLimit)
		}
		for range length {
			s.out = append(s.out, s.out[len(s.out)-distance])
		}
	}
}

func (s *slow) told() {
	l, d, c := s.number(5), s.number(5), s.number(4)
	if l > 29 || d > 29 {
		panic(api.ErrForm)
	}
	own := make([]int, 19)
	for i, sym := range []int{16, 17, 18, 0, 8, 7, 9, 6, 10, 5, 11, 4, 12, 3, 13, 2, 14, 1, 15} {
		if i < c+4 {
			own[sym] = s.number(3)
		}
	}
	code, room := slowOf(own)
	if room != 32768 {
		panic(api.ErrForm)
	}
	row := s.lengths(code, l+257+d+1)
	first, firstRoom := slowOf(row[:l+257])
	other, otherRoom := slowOf(row[l+257:])
	oneBit := func(c slowCodes) bool {
		_, ok := c.symbols["0"]
		return ok && len(c.symbols) == 1
	}
	switch {
	case row[256] == 0, firstRoom > 32768, otherRoom > 32768:
		panic(api.ErrForm)
	case firstRoom < 32768 && !oneBit(first):
		panic(api.ErrForm)
	case otherRoom < 32768 && !oneBit(other) && otherRoom > 0:
		panic(api.ErrForm)
	}
	s.symbols(first, other)
}

// lengths: so many lengths, told by a code.
func (s *slow) lengths(code slowCodes, most int) []int {
	var row []int
	for len(row) < most {
		sym := s.next(code)
		x, times := sym, 1
		switch sym {
		case 16:
			times = 3 + s.number(2)
			if len(row) == 0 {
				panic(api.ErrForm)
			}
			x = row[len(row)-1]
		case 17:
			x, times = 0, 3+s.number(3)
		case 18:
			x, times = 0, 11+s.number(7)
		}
		for range times {
			row = append(row, x)
		}
		if len(row) > most {
			panic(api.ErrForm)
		}
	}
	return row
}
