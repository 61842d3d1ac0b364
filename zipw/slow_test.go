package zipw_test

import (
	"encoding/binary"
	"hash/crc32"
	"strings"

	"etui/api"
	"etui/deflate"
	"etui/zipr"
	"etui/zipw"
)

func u16(list ...int) string {
	var b []byte
	for _, n := range list {
		b = binary.LittleEndian.AppendUint16(b, uint16(n))
	}
	return string(b)
}

func u32(list ...int) string {
	var b []byte
	for _, n := range list {
		b = binary.LittleEndian.AppendUint32(b, uint32(n))
	}
	return string(b)
}

// slowFlags: the flags of a name.
func slowFlags(name string) int {
	for i := range len(name) {
		if name[i] > 127 {
			return 2048
		}
	}
	return 0
}

// slowFold: a name without great letters.
func slowFold(name string) string {
	for i := range 26 {
		name = strings.ReplaceAll(name, string(rune('A'+i)), string(rune('a'+i)))
	}
	return name
}

// slowBytes: an item's method, and its bytes as they stand.
func slowBytes(x zipw.Item) (int, string) {
	if x.Level < 0 {
		return 0, string(x.Data)
	}
	packed := deflate.Deflate(x.Data, x.Level)
	if len(packed) < len(x.Data) {
		return 8, string(packed)
	}
	return 0, string(x.Data)
}

// slowWrite writes an archive as the chapter tells it, of items without a fault.
func slowWrite(list []zipw.Item) string {
	heads, rows := "", ""
	for _, x := range list {
		method, data := slowBytes(x)
		at := len(heads)
		flags := slowFlags(x.Name)
		sum := int(crc32.ChecksumIEEE(x.Data))
		heads += "PK\x03\x04" + u16(20) + u16(flags) + u16(method) + u16(0) + u16(33) + u32(sum) + u32(len(data)) + u32(len(x.Data)) + u16(len(x.Name)) + u16(0) + x.Name + data
		rows += "PK\x01\x02" + u16(20) + u16(20) + u16(flags) + u16(method) + u16(0) + u16(33) + u32(sum) + u32(len(data)) + u32(len(x.Data)) +
			u16(len(x.Name)) + u16(0) + u16(0) + u16(0) + u16(0) + u32(0) + u32(at) + x.Name
	}
	return heads + rows + "PK\x05\x06" + u16(0) + u16(0) + u16(len(list)) + u16(len(list)) + u32(len(rows)) + u32(len(heads)) + u16(0)
}

// slowMost: how many bytes the archive has at most.
func slowMost(list []zipw.Item) int {
	most := 22
	for _, x := range list {
		most += 76
		most += 2 * len(x.Name)
		most += deflate.Bound(len(x.Data))
	}
	return most
}

// slowFault: the first thing that is wrong.
func slowFault(list []zipw.Item) api.Errno {
	if len(list) > 4096 {
		return api.ErrLimit
	}
	if slowMost(list) > 1<<24 {
		return api.ErrLimit
	}
	for i, x := range list {
		if zipr.NameFault(x.Name, slowFlags(x.Name) == 2048) {
			return api.ErrName
		}
		for _, earlier := range list[:i] {
			if slowFold(earlier.Name) == slowFold(x.Name) {
				return api.ErrThere
			}
		}
		if strings.HasSuffix(x.Name, "/") && len(x.Data) > 0 {
			return api.ErrForm
		}
	}
	return api.OK
}
