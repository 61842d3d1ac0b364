package zipr_test

import (
	"encoding/binary"
	"strings"
	"unicode/utf8"

	"etui/api"
	"etui/inflate"
	"etui/zipr"
)

// slow reads an archive as the chapter tells it, one sentence after the other.
type slow struct {
	b         []byte
	from, end int
	rows      []zipr.Row
	taken     []int // by which row, from 1 on, each byte ahead of the rows is had
	datas     []int // where each row's bytes begin
	extras    []int // how many bytes each head's extra has
}

func (s *slow) short(at int) int { return int(binary.LittleEndian.Uint16(s.b[at:])) }
func (s *slow) long(at int) int  { return int(binary.LittleEndian.Uint32(s.b[at:])) }

func slowRows(b []byte, l zipr.Limits) ([]zipr.Row, api.Errno) {
	s := &slow{b: b}
	if e := s.readRows(l); e != api.OK {
		return nil, e
	}
	return s.rows, api.OK
}

func slowRead(b []byte, l zipr.Limits) ([]zipr.Entry, api.Errno) {
	s := &slow{b: b}
	for _, step := range []func(zipr.Limits) api.Errno{s.readRows, s.readHeads, s.readClashes} {
		if e := step(l); e != api.OK {
			return nil, e
		}
	}
	return s.readBytes(l)
}

// readEnd is the steps 1 and 2, and readRows those and the step 3.
func (s *slow) readEnd(l zipr.Limits) api.Errno {
	if len(s.b) > l.Bytes && len(s.b) > 0 {
		return api.ErrLimit
	}
	s.end = -1
	for at := 0; at+22 <= len(s.b); at++ {
		if string(s.b[at:at+4]) == endSign && at+22+s.short(at+20) == len(s.b) {
			s.end = at
		}
	}
	if s.end < 0 {
		return api.ErrForm
	}
	for at := s.end + 4; at < s.end+12; at += 2 {
		if s.short(at) == 65535 {
			return api.ErrMethod
		}
	}
	if s.long(s.end+12) == 4294967295 || s.long(s.end+16) == 4294967295 || s.long(s.end+4) != 0 {
		return api.ErrMethod
	}
	s.from = s.long(s.end + 16)
	if s.short(s.end+8) != s.short(s.end+10) || s.from+s.long(s.end+12) != s.end {
		return api.ErrForm
	}
	if n := s.short(s.end + 8); n > l.Entries && n > 0 {
		return api.ErrLimit
	}
	return api.OK
}

func (s *slow) readRows(l zipr.Limits) api.Errno {
	if e := s.readEnd(l); e != api.OK {
		return e
	}
	at := s.from
	for range s.short(s.end + 8) {
		if at+46 > s.end || string(s.b[at:at+4]) != rowSign {
			return api.ErrForm
		}
		size := 46 + s.short(at+28) + s.short(at+30) + s.short(at+32)
		if at+size > s.end {
			return api.ErrForm
		}
		if e := s.readRow(at); e != api.OK {
			return e
		}
		at += size
	}
	if at != s.end {
		return api.ErrForm
	}
	return api.OK
}

func (s *slow) readRow(at int) api.Errno {
	name := at + 46
	extra := name + s.short(at+28)
	remark := extra + s.short(at+30)
	r := zipr.Row{
		Name: string(s.b[name:extra]), Flags: s.short(at + 8), Method: s.short(at + 10), Time: s.short(at + 12), Date: s.short(at + 14),
		Sum: uint32(s.long(at + 16)), Packed: s.long(at + 20), Plain: s.long(at + 24), Extra: s.short(at + 30), At: s.long(at + 42),
		Remark: s.b[remark : remark+s.short(at+32)],
	}
	if s.short(at+34) != 0 || r.Packed == 4294967295 || r.Plain == 4294967295 || r.At == 4294967295 {
		return api.ErrMethod
	}
	for bit := range 16 {
		if r.Flags>>bit&1 == 1 && bit != 1 && bit != 2 && bit != 3 && bit != 11 {
			return api.ErrMethod
		}
	}
	if r.Method != 0 && r.Method != 8 {
		return api.ErrMethod
	}
	if slowNameFault(r.Name, r.Flags>>11&1 == 1) {
		return api.ErrName
	}
	for _, earlier := range s.rows {
		if slowFold(earlier.Name) == slowFold(r.Name) {
			return api.ErrThere
		}
	}
	if r.Method == 0 && r.Packed != r.Plain || r.Name[len(r.Name)-1] == '/' && r.Plain != 0 {
		return api.ErrForm
	}
	s.rows = append(s.rows, r)
	return api.OK
}

// readHeads is the step 4.
func (s *slow) readHeads(zipr.Limits) api.Errno {
	s.taken = make([]int, s.from)
	for _, r := range s.rows {
		at := r.At
		if at+30 > s.from || string(s.b[at:at+4]) != headSign {
			return api.ErrForm
		}
		extra := at + 30 + s.short(at+26)
		data := extra + s.short(at+28)
		if data > s.from || s.short(at+6) != r.Flags || s.short(at+8) != r.Method || string(s.b[at+30:extra]) != r.Name {
			return api.ErrForm
		}
		own := u32(int(r.Sum), r.Packed, r.Plain)
		told := string(s.b[at+14 : at+26])
		if told != own && (r.Flags>>3&1 == 0 || told != u32(0, 0, 0)) {
			return api.ErrForm
		}
		behind := data + r.Packed
		if behind > s.from {
			return api.ErrEnd
		}
		if r.Flags>>3&1 == 1 {
			left := string(s.b[behind:s.from])
			switch {
			case strings.HasPrefix(left, sumsSign+own):
				behind += 16
			case strings.HasPrefix(left, own):
				behind += 12
			default:
				return api.ErrForm
			}
		}
		s.datas = append(s.datas, data)
		s.extras = append(s.extras, data-extra)
		for i := at; i < behind; i++ {
			s.taken[i]++
		}
	}
	return api.OK
}

// readClashes is the step 5.
func (s *slow) readClashes(zipr.Limits) api.Errno {
	for _, n := range s.taken {
		if n > 1 {
			return api.ErrClash
		}
	}
	return api.OK
}

// readBytes is the step 6.
func (s *slow) readBytes(l zipr.Limits) ([]zipr.Entry, api.Errno) {
	var list []zipr.Entry
	left := max(l.Total, 0)
	for i, r := range s.rows {
		data := s.b[s.datas[i] : s.datas[i]+r.Packed]
		if r.Method == 8 {
			x, e := inflate.Inflate(data, left)
			if e != api.OK {
				return nil, e
			}
			if x.Used != len(data) {
				return nil, api.ErrForm
			}
			data = x.Out
		}
		if len(data) > left {
			return nil, api.ErrLimit
		}
		if len(data) != r.Plain {
			return nil, api.ErrForm
		}
		if sumOf(string(data)) != r.Sum {
			return nil, api.ErrSum
		}
		left -= len(data)
		list = append(list, zipr.Entry{Name: r.Name, Data: data, Method: r.Method, Extra: s.extras[i] + r.Extra, At: r.At})
	}
	return list, api.OK
}

func slowNameFault(name string, utf bool) bool {
	if len(name) == 0 || len(name) > 255 || strings.HasPrefix(name, "/") || strings.Contains(name, "//") {
		return true
	}
	for c := range 256 {
		if (c < 32 || c == 127 || c == 92 || c > 127 && !utf) && strings.IndexByte(name, byte(c)) >= 0 {
			return true
		}
	}
	for _, part := range []string{"/./", "/../"} {
		if strings.Contains("/"+name+"/", part) {
			return true
		}
	}
	return utf && !utf8.ValidString(name)
}

func slowFold(name string) string {
	out := ""
	for i := range len(name) {
		if place := strings.IndexByte("ABCDEFGHIJKLMNOPQRSTUVWXYZ", name[i]); place >= 0 {
			out += "abcdefghijklmnopqrstuvwxyz"[place : place+1]
		} else {
			out += name[i : i+1]
		}
	}
	return out
}
