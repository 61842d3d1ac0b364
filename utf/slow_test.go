package utf_test

// The chapter's words, once more, as plainly as can be: what the calls are to answer.

func slowIsSign(r int) bool {
	return r >= 0 && r <= 1114111 && !(r >= 55296 && r <= 57343)
}

// slowBytes: a sign's bytes.
func slowBytes(r int) string {
	switch {
	case r < 128:
		return string([]byte{byte(r)})
	case r < 2048:
		return string([]byte{byte(192 + r/64), byte(128 + r%64)})
	case r < 65536:
		return string([]byte{byte(224 + r/4096), byte(128 + r/64%64), byte(128 + r%64)})
	}
	return string([]byte{byte(240 + r/262144), byte(128 + r/4096%64), byte(128 + r/64%64), byte(128 + r%64)})
}

// slowNext reads a number of any bytes, and asks whether it is a sign's, and whether
// they are what that sign is written as.
func slowNext(b []byte, at int) (rune, int) {
	if at < 0 || at >= len(b) {
		return 0, 0
	}
	n, r := 1, int(b[at])
	switch {
	case r >= 240:
		n, r = 4, r-240
	case r >= 224:
		n, r = 3, r-224
	case r >= 192:
		n, r = 2, r-192
	}
	if n > len(b)-at {
		return 0, 0
	}
	for _, c := range b[at+1 : at+n] {
		r = r*64 + int(c) - 128
	}
	if !slowIsSign(r) || slowBytes(r) != string(b[at:at+n]) {
		return 0, 0
	}
	return rune(r), n
}

func slowChar(r int) bool {
	return r == 9 || r == 10 || r == 13 || r >= 32 && r <= 55295 || r >= 57344 && r <= 65533 || r >= 65536 && r <= 1114111
}

func slowBlank(r int) bool {
	return r == 32 || r == 9 || r == 10 || r == 13
}

func slowBegins(r int) bool {
	switch {
	case r < 128:
		return r >= 65 && r <= 90 || r >= 97 && r <= 122 || r == 95
	case r < 0x300:
		return r >= 0xc0 && r != 0xd7 && r != 0xf7
	case r < 0x2000:
		return r >= 0x370 && r != 0x37e
	case r < 0x3000:
		return r == 0x200c || r == 0x200d || r >= 0x2070 && r < 0x2190 || r >= 0x2c00 && r < 0x2ff0
	case r < 0xf900:
		return r > 0x3000 && r < 0xd800
	case r < 0xfffe:
		return r < 0xfdd0 || r >= 0xfdf0
	}
	return r >= 0x10000 && r < 0xf0000
}

func slowGoes(r int) bool {
	return slowBegins(r) || r >= 48 && r <= 57 || r == 45 || r == 46 || r == 0xb7 || r >= 0x300 && r < 0x370 || r == 0x203f || r == 0x2040
}

// slowCheck: the first place at which no sign of XML's stands, after such ones only.
func slowCheck(b []byte) (int, bool) {
	at := 0
	for at < len(b) {
		r, n := slowNext(b, at)
		if n == 0 || !slowChar(int(r)) {
			return at, false
		}
		at += n
	}
	return 0, true
}

func slowName(s string) bool {
	b := []byte(s)
	for at := 0; at < len(b); {
		r, n := slowNext(b, at)
		if n == 0 || at == 0 && !slowBegins(int(r)) || !slowGoes(int(r)) {
			return false
		}
		at += n
	}
	return s != ""
}

func slowLines(b []byte) []byte {
	var out []byte
	for at := 0; at < len(b); at++ {
		if b[at] != 13 {
			out = append(out, b[at])
			continue
		}
		out = append(out, 10)
		if at+1 < len(b) && b[at+1] == 10 {
			at++
		}
	}
	return out
}

func slowStrip(b []byte) []byte {
	if len(b) >= 3 && b[0] == 0xef && b[1] == 0xbb && b[2] == 0xbf {
		return b[3:]
	}
	return b
}
