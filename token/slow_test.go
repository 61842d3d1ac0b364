package token_test

import (
	"math/big"
	"regexp"
	"slices"
	"strings"
	"unicode/utf8"

	"etui/api"
	"etui/token"
)

// The chapter's words, once more, as patterns: what the calls are to answer.

const (
	slowBegins = `A-Za-z_\x{C0}-\x{D6}\x{D8}-\x{F6}\x{F8}-\x{2FF}\x{370}-\x{37D}\x{37F}-\x{1FFF}\x{200C}\x{200D}\x{2070}-\x{218F}\x{2C00}-\x{2FEF}\x{3001}-\x{D7FF}\x{F900}-\x{FDCF}\x{FDF0}-\x{FFFD}\x{10000}-\x{EFFFF}`
	slowName   = `[` + slowBegins + `][` + slowBegins + `0-9.\x{B7}\x{300}-\x{36F}\x{203F}\x{2040}-]*`
	slowQName  = `(` + slowName + `(?::` + slowName + `)?)`
	slowSigns  = `\t\n\r\x{20}-\x{D7FF}\x{E000}-\x{FFFD}\x{10000}-\x{10FFFF}`
)

// slow are the patterns; what they tell begins where the bytes do.
type slow struct {
	decl, declEnd, pi, remark, raw, other, end, begin, beginEnd, attr, text, ref, signs *regexp.Regexp
}

var patterns = slow{
	decl:     regexp.MustCompile(`^<\?xml([ \n\r\t])`),
	declEnd:  regexp.MustCompile(`^[ \n\r\t]*\?>`),
	pi:       regexp.MustCompile(`^(?s)<\?(` + slowName + `)(?:\?>|[ \n\r\t]+(.*?)\?>)`),
	remark:   regexp.MustCompile(`^(?s)<!--(.*?)--`),
	raw:      regexp.MustCompile(`^(?s)<!\[CDATA\[(.*?)\]\]>`),
	other:    regexp.MustCompile(`^<!(--|\[CDATA\[)?`),
	end:      regexp.MustCompile(`^</` + slowQName + `[ \n\r\t]*>`),
	begin:    regexp.MustCompile(`^<` + slowQName),
	beginEnd: regexp.MustCompile(`^[ \n\r\t]*(/?)>`),
	attr:     regexp.MustCompile(`^[ \n\r\t]+` + slowQName + `[ \n\r\t]*=[ \n\r\t]*("[^"<]*"|'[^'<]*')`),
	text:     regexp.MustCompile(`^[^<]+`),
	ref:      regexp.MustCompile(`&(lt|gt|amp|quot|apos|#[0-9]+|#x[0-9a-fA-F]+);`),
	signs:    regexp.MustCompile(`^[` + slowSigns + `]*`),
}

// slowCheck: the place behind the first signs that are XML's, if that isn't the end.
func slowCheck(s string) (int, bool) {
	n := len(patterns.signs.FindString(s))
	// A pattern takes the sign FFFD for a byte that is none.
	for i, r := range s[:n] {
		if r == utf8.RuneError && !strings.HasPrefix(s[i:], "\ufffd") {
			n = i
			break
		}
	}
	if n < len(s) {
		return n, false
	}
	return 0, true
}

// slowTold: a text with its references told.
func slowTold(s string) (string, bool) {
	ok := len(patterns.ref.FindAllString(s, -1)) == strings.Count(s, "&")
	out := patterns.ref.ReplaceAllStringFunc(s, func(ref string) string {
		sign, known := slowSign(strings.Trim(ref, "&;"))
		ok = ok && known
		return sign
	})
	if !ok {
		return "", false
	}
	return out, true
}

func slowSign(ref string) (string, bool) {
	if ref[0] != '#' {
		return map[string]string{"lt": "<", "gt": ">", "amp": "&", "quot": "\"", "apos": "'"}[ref], true
	}
	base := 10
	digits := ref[1:]
	if digits[0] == 'x' {
		base = 16
		digits = digits[1:]
	}
	n, _ := new(big.Int).SetString(digits, base)
	if n.Cmp(big.NewInt(utf8.MaxRune)) > 0 || !utf8.ValidRune(rune(n.Int64())) {
		return "", false
	}
	sign := string(rune(n.Int64()))
	_, ok := slowCheck(sign)
	return sign, ok
}

func slowText(s string) (string, bool) {
	if _, ok := slowCheck(s); !ok || strings.Contains(s, "<") || strings.Contains(s, "]]>") || strings.Contains(s, "\r") {
		return "", false
	}
	return slowTold(s)
}

func slowEscape(s string, quoted bool) (string, bool) {
	if _, ok := slowCheck(s); !ok {
		return "", false
	}
	for _, c := range []struct {
		sign, ref string
		quoted    bool
	}{{"&", "&amp;", false}, {"<", "&lt;", false}, {">", "&gt;", false}, {"\r", "&#13;", false}, {"\"", "&quot;", true}, {"\t", "&#9;", true}, {"\n", "&#10;", true}} {
		if quoted || !c.quoted {
			s = strings.ReplaceAll(s, c.sign, c.ref)
		}
	}
	return s, true
}

func slowScan(b []byte) ([]token.Token, int, api.Errno) {
	s := strings.TrimPrefix(string(b), "\ufeff")
	if at, ok := slowCheck(s); !ok {
		return nil, at, api.ErrXml
	}
	s = strings.ReplaceAll(strings.ReplaceAll(s, "\r\n", "\n"), "\r", "\n")
	var list []token.Token
	for at := 0; at < len(s); {
		t, n, e := slowToken(s[at:], at == 0)
		if e != api.OK {
			return nil, at, e
		}
		t.At = at
		list = append(list, t)
		at += n
	}
	return list, 0, api.OK
}

// slowToken: the token that a text begins with, and how many bytes it has.
func slowToken(s string, first bool) (token.Token, int, api.Errno) {
	if first && patterns.decl.MatchString(s) {
		return slowDecl(s)
	}
	if m := patterns.pi.FindStringSubmatch(s); m != nil && strings.ToLower(m[1]) != "xml" {
		return token.Token{Kind: token.KPi, Name: m[1], Text: m[2]}, len(m[0]), api.OK
	}
	if m := patterns.other.FindStringSubmatch(s); m != nil && m[1] == "" {
		return token.Token{}, 0, api.ErrMethod
	}
	if m := patterns.remark.FindStringSubmatch(s); m != nil && strings.HasPrefix(s[len(m[0]):], ">") {
		return token.Token{Kind: token.KRemark, Text: m[1]}, len(m[0]) + 1, api.OK
	}
	if m := patterns.raw.FindStringSubmatch(s); m != nil {
		return token.Token{Kind: token.KText, Text: m[1]}, len(m[0]), api.OK
	}
	if m := patterns.end.FindStringSubmatch(s); m != nil {
		return token.Token{Kind: token.KEnd, Name: m[1]}, len(m[0]), api.OK
	}
	if m := patterns.begin.FindStringSubmatch(s); m != nil {
		return slowBegin(s, m[1])
	}
	if m := patterns.text.FindString(s); m != "" && !strings.Contains(m, "]]>") {
		if text, ok := slowTold(m); ok {
			return token.Token{Kind: token.KText, Text: text}, len(m), api.OK
		}
	}
	return token.Token{}, 0, api.ErrXml
}

// slowAttrs: the attributes that a text begins with, and how many bytes they have.
func slowAttrs(s string) ([]token.Attr, int, api.Errno) {
	var list []token.Attr
	n := 0
	for {
		m := patterns.attr.FindStringSubmatch(s[n:])
		if m == nil {
			return list, n, api.OK
		}
		value := strings.ReplaceAll(strings.ReplaceAll(m[2][1:len(m[2])-1], "\t", " "), "\n", " ")
		value, ok := slowTold(value)
		if !ok || slices.ContainsFunc(list, func(a token.Attr) bool { return a.Name == m[1] }) {
			return nil, 0, api.ErrXml
		}
		list = append(list, token.Attr{Name: m[1], Value: value})
		if len(list) == 257 {
			return nil, 0, api.ErrLimit
		}
		n += len(m[0])
	}
}

func slowBegin(s, name string) (token.Token, int, api.Errno) {
	n := 1 + len(name)
	list, more, e := slowAttrs(s[n:])
	if e != api.OK {
		return token.Token{}, 0, e
	}
	n += more
	m := patterns.beginEnd.FindStringSubmatch(s[n:])
	if m == nil {
		return token.Token{}, 0, api.ErrXml
	}
	return token.Token{Kind: token.KBegin, Name: name, Attrs: list, Empty: m[1] == "/"}, n + len(m[0]), api.OK
}

func slowDecl(s string) (token.Token, int, api.Errno) {
	n := len("<?xml")
	list, more, e := slowAttrs(s[n:])
	if e != api.OK {
		return token.Token{}, 0, e
	}
	n += more
	m := patterns.declEnd.FindString(s[n:])
	if m == "" {
		return token.Token{}, 0, api.ErrXml
	}
	if e := slowDeclFault(list); e != api.OK {
		return token.Token{}, 0, e
	}
	return token.Token{Kind: token.KDecl, Attrs: list}, n + len(m), api.OK
}

// slowDeclFault goes from attribute to attribute; each one that may be left out is
// asked for only while those behind it didn't come.
func slowDeclFault(list []token.Attr) api.Errno {
	asked := []string{"version", "encoding", "standalone"}
	for i, a := range list {
		k := slices.Index(asked, a.Name)
		switch {
		case k < 0 || i == 0 && k > 0:
			return api.ErrXml
		case a.Name == "version" && a.Value != "1.0":
			return api.ErrXml
		case a.Name == "encoding" && strings.ToUpper(a.Value) != "UTF-8":
			return api.ErrMethod
		case a.Name == "standalone" && a.Value != "yes" && a.Value != "no":
			return api.ErrXml
		}
		asked = asked[k+1:]
	}
	if len(list) == 0 {
		return api.ErrXml
	}
	return api.OK
}
