package token_test

import (
	"bytes"
	"fmt"
	"slices"
	"strings"
	"testing"
	"unicode/utf8"

	"etui/api"
	"etui/token"
	"etui/utf"
)

// fault is the place and the error that a text has.
type fault struct {
	at int
	e  api.Errno
}

// someTexts are texts of all kinds of tokens, and of such as aren't as told.
var someTexts = []string{
	"", " ", "a", "é", "\ufeff", "\ufeff\ufeff", "<a/>", "<a></a>", "<a b=\"1&amp;2\"/>", "<p:a p:b='\t\n&#9;' c = \"'\" >x&lt;y</p:a >", "a\r\nb\rc",
	"<?xml version='1.0' encoding=\"UTF-8\" standalone='yes'?>\r\n<a/>", "<?xml version='1.0'?>", "<?xml version='1.1'?>", "<?xml version='1.0' encoding='latin1'?>", "<?xml?>",
	"<?go?>", "<?go on and on?>", "<!---->", "<!-- one - two -->", "<!-- -- -->", "<![CDATA[<&]]]>]]>", "<![CDATA[", "<!DOCTYPE a>", "<!", "<", ">", "]]>", "&", "&#13;&#xd;", "&#0;", "\x00", "a\xff", "<日本:é a·='1'/>",
	"<a b='1' b='2'/>", "<a b='<'/>", "<a b='&x;'/>", "</a", "</a></b></a:b\n>", "<a/ >", "<a:b:c/>",
}

// numbers are numbers in no order, the same ones each time.
type numbers struct{ x uint32 }

func (s *numbers) below(n int) int {
	s.x = s.x*1664525 + 1013904223
	return int(s.x>>8) % n
}

// numbered: so many attributes, a0, a1 and so on, of no signs.
func numbered(n int) string {
	var out strings.Builder
	for i := range n {
		fmt.Fprintf(&out, " a%d=''", i)
	}
	return out.String()
}

func equal(a, b []token.Token) bool {
	return slices.EqualFunc(a, b, func(x, y token.Token) bool {
		return x.Kind == y.Kind && x.Name == y.Name && x.Text == y.Text && x.Empty == y.Empty && x.At == y.At && slices.Equal(x.Attrs, y.Attrs)
	})
}

// wantTokens asks for the tokens of a text.
func wantTokens(t *testing.T, s string, want ...token.Token) {
	t.Helper()
	list, at, e := token.Scan([]byte(s))
	if e != api.OK || at != 0 || !equal(list, want) {
		t.Errorf("%.200q: %v, place %d, errno %d, want %v", s, list, at, e, want)
	}
}

// wantFault asks for a fault, and for nothing beside it.
func wantFault(t *testing.T, s string, at int, e api.Errno) {
	t.Helper()
	list, gotAt, got := token.Scan([]byte(s))
	if got != e || gotAt != at || list != nil {
		t.Errorf("%.200q: %v, place %d, errno %d, want place %d, errno %d", s, list, gotAt, got, at, e)
	}
}

// wantSame asks whether the calls answer what the chapter tells of a text, and answers
// whether it is one of tokens.
func wantSame(t *testing.T, s string) bool {
	t.Helper()
	list, at, e := token.Scan([]byte(s))
	if want, wantAt, wantE := slowScan([]byte(s)); e != wantE || at != wantAt || !equal(list, want) {
		t.Fatalf("%q: %v, place %d, errno %d, want %v, place %d, errno %d", s, list, at, e, want, wantAt, wantE)
	}
	text, ok := token.Text(s)
	if want, wantOK := slowText(s); text != want || ok != wantOK {
		t.Fatalf("text %q: %q, %v, want %q, %v", s, text, ok, want, wantOK)
	}
	wantEscaped(t, s)
	return e == api.OK
}

// wantEscaped asks whether a text is escaped as told, and told again as it was.
func wantEscaped(t *testing.T, s string) {
	t.Helper()
	for _, quoted := range []bool{false, true} {
		text, ok := token.Escape(s, quoted)
		if want, wantOK := slowEscape(s, quoted); text != want || ok != wantOK {
			t.Fatalf("escape %q, %v: %q, %v, want %q, %v", s, quoted, text, ok, want, wantOK)
		}
		if !ok {
			continue
		}
		if back, ok := token.Text(text); !ok || back != s {
			t.Fatalf("%q, %v, back from %q: %q, %v", s, quoted, text, back, ok)
		}
		standing := "<a>" + text + "</a>"
		if quoted {
			standing = "<a b=\"" + text + "\"/>"
		}
		list, _, e := token.Scan([]byte(standing))
		if e != api.OK || quoted && list[0].Attrs[0].Value != s || !quoted && s != "" && list[1].Text != s {
			t.Fatalf("%q, in %q: %v, errno %d", s, standing, list, e)
		}
	}
}

// tag: a beginning.
func tag(at int, name string, attrs ...token.Attr) token.Token {
	return token.Token{Kind: token.KBegin, Name: name, Attrs: attrs, At: at}
}

// empty: a beginning that is empty.
func empty(at int, name string, attrs ...token.Attr) token.Token {
	return token.Token{Kind: token.KBegin, Name: name, Attrs: attrs, Empty: true, At: at}
}

func end(at int, name string) token.Token {
	return token.Token{Kind: token.KEnd, Name: name, At: at}
}

func text(at int, s string) token.Token {
	return token.Token{Kind: token.KText, Text: s, At: at}
}

func remark(at int, s string) token.Token {
	return token.Token{Kind: token.KRemark, Text: s, At: at}
}

func pi(at int, name, s string) token.Token {
	return token.Token{Kind: token.KPi, Name: name, Text: s, At: at}
}

func decl(attrs ...token.Attr) token.Token {
	return token.Token{Kind: token.KDecl, Attrs: attrs}
}

// P12.1: tokens

func TestTheExample(t *testing.T) {
	wantTokens(t, `<a b="1&amp;2"/>`, empty(0, "a", token.Attr{Name: "b", Value: "1&2"}))
}

func TestKinds(t *testing.T) {
	if kinds := []int{token.KDecl, token.KPi, token.KRemark, token.KText, token.KBegin, token.KEnd}; !slices.Equal(kinds, []int{1, 2, 3, 4, 5, 6}) {
		t.Error(kinds)
	}
}

func TestNoSigns(t *testing.T) {
	for _, b := range [][]byte{nil, {}, []byte("\ufeff")} {
		if list, at, e := token.Scan(b); list != nil || at != 0 || e != api.OK {
			t.Error(list, at, e)
		}
	}
}

// All kinds, one behind the other.
func TestAllKinds(t *testing.T) {
	wantTokens(t, "<?xml version='1.0'?><?go on?><!--r--> <a b='c'>t<![CDATA[u]]><d/></a>",
		decl(token.Attr{Name: "version", Value: "1.0"}), pi(21, "go", "on"), remark(30, "r"), text(38, " "), tag(39, "a", token.Attr{Name: "b", Value: "c"}),
		text(48, "t"), text(49, "u"), empty(62, "d"), end(66, "a"))
	// What is open, and in what, isn't asked.
	wantTokens(t, "</b><a></c><a>", end(0, "b"), tag(4, "a"), end(7, "c"), tag(11, "a"))
	wantTokens(t, "<a/><b/>x", empty(0, "a"), empty(4, "b"), text(8, "x"))
}

// What a text is made ahead of all tokens.
func TestMaking(t *testing.T) {
	wantTokens(t, "\ufeff<a/>", empty(0, "a"))
	wantTokens(t, "\ufeff<?xml version='1.0'?>", decl(token.Attr{Name: "version", Value: "1.0"}))
	wantTokens(t, "\ufeff\ufeff", text(0, "\ufeff"))
	wantTokens(t, "a\ufeff", text(0, "a\ufeff"))
	wantTokens(t, "\r\n<a/>\r<b/>\n\r<c/>", text(0, "\n"), empty(1, "a"), text(5, "\n"), empty(6, "b"), text(10, "\n\n"), empty(12, "c"))
	wantTokens(t, "<!--\r\n\r--><?go \r\n a\r?><![CDATA[\r\r\n]]>", remark(0, "\n\n"), pi(9, "go", "a\n"), text(20, "\n\n"))
	wantTokens(t, "<a\r\nb\r=\r'\r\n\r'\r/>", empty(0, "a", token.Attr{Name: "b", Value: "  "}))
}

// What is no sign of XML's is looked for ahead of all tokens, in the bytes as they
// are behind the mark.
func TestSigns(t *testing.T) {
	for s, want := range map[string]int{"\x00": 0, "a\x01": 1, "\ufeff\x00": 0, "\ufeffa\xff": 1, "\r\n\r\na\x1f": 5, "&x;<!<\uffff": 6, "é\xc3": 2, "<a b='\x0b'/>": 6, "<!--\x0c-->": 4, "<?go \xed\xa0\x80?>": 5,
		"<![CDATA[\ufffe]]>": 9, "\xef\xbb": 0, "\xef\xbb\xbf\xef\xbb": 0, "\xff\xfe<\x00": 0, "<?xml version='1.0' encoding='latin1'?>\xe9": 39} {
		wantFault(t, s, want, api.ErrXml)
	}
	wantTokens(t, "\u007f\u0085\ufffd\U0010ffff", text(0, "\u007f\u0085\ufffd\U0010ffff"))
}

func TestDeclarations(t *testing.T) {
	version := token.Attr{Name: "version", Value: "1.0"}
	for s, want := range map[string][]token.Attr{
		"<?xml version='1.0'?>": nil, "<?xml version=\"1.0\"?>": nil, "<?xml\tversion\n=\t '1.0'\r\n?>": nil, "<?xml \n\t version='&#49;&#x2e;0' ?>": nil,
		"<?xml version='1.0' encoding='UTF-8'?>":                   {{Name: "encoding", Value: "UTF-8"}},
		"<?xml version='1.0' encoding=\"utf-8\"?>":                 {{Name: "encoding", Value: "utf-8"}},
		"<?xml version='1.0' encoding='uTf-8'?>":                   {{Name: "encoding", Value: "uTf-8"}},
		"<?xml version='1.0' standalone='yes'?>":                   {{Name: "standalone", Value: "yes"}},
		"<?xml version='1.0' standalone='no'?>":                    {{Name: "standalone", Value: "no"}},
		"<?xml version='1.0'\nencoding='utf-8'\tstandalone='no'?>": {{Name: "encoding", Value: "utf-8"}, {Name: "standalone", Value: "no"}},
	} {
		wantTokens(t, s, decl(append([]token.Attr{version}, want...)...))
	}
}

func TestDeclarationFaults(t *testing.T) {
	for s, e := range map[string]api.Errno{
		"<?xml?>": api.ErrXml, "<?xml ?>": api.ErrXml, "<?xml": api.ErrXml, "<?xml ": api.ErrXml, "<?xml version='1.0'": api.ErrXml, "<?xml version='1.0' ": api.ErrXml, "<?xml version='1.0'?": api.ErrXml, "<?xml version='1.0'>": api.ErrXml, "<?xml version='1.0'/>": api.ErrXml, "<?xml version='1.0' ? >": api.ErrXml,
		"<?xml version='1.0'encoding='utf-8'?>": api.ErrXml, "<?xmlversion='1.0'?>": api.ErrXml, "<?xml version?>": api.ErrXml, "<?xml version=1.0?>": api.ErrXml, "<?xml version='1.0\"?>": api.ErrXml, "<?xml 1.0?>": api.ErrXml,
		"<?xml version=''?>": api.ErrXml, "<?xml version='1.1'?>": api.ErrXml, "<?xml version='1.0 '?>": api.ErrXml, "<?xml version='1'?>": api.ErrXml, "<?xml Version='1.0'?>": api.ErrXml, "<?xml a:version='1.0'?>": api.ErrXml, "<?xml version:a='1.0'?>": api.ErrXml,
		"<?xml encoding='utf-8'?>": api.ErrXml, "<?xml standalone='yes'?>": api.ErrXml, "<?xml encoding='utf-8' version='1.0'?>": api.ErrXml, "<?xml version='1.0' standalone='no' encoding='utf-8'?>": api.ErrXml, "<?xml version='1.0' a='1'?>": api.ErrXml, "<?xml version='1.0' Encoding='utf-8'?>": api.ErrXml,
		"<?xml version='1.0' standalone='Yes'?>": api.ErrXml, "<?xml version='1.0' standalone=''?>": api.ErrXml, "<?xml version='1.0' standalone='yes '?>": api.ErrXml, "<?xml version='1.0' encoding='utf-8' standalone='yes' a=''?>": api.ErrXml,
		"<?xml version='1.0' encoding=''?>": api.ErrMethod, "<?xml version='1.0' encoding='utf8'?>": api.ErrMethod, "<?xml version='1.0' encoding='latin1'?>": api.ErrMethod, "<?xml version='1.0' encoding='UTF-16'?>": api.ErrMethod, "<?xml version='1.0' encoding=' utf-8'?>": api.ErrMethod, "<?xml version='1.0' encoding='utf-8 '?>": api.ErrMethod, "<?xml version='1.0' encoding='utf-8&#9;'?>": api.ErrMethod,
		"<?xml version='1.0' encoding='?>'?>": api.ErrMethod, "<?xml version='?>'?>": api.ErrXml, "<?xml version='<'?>": api.ErrXml, "<?xml version='&x;'?>": api.ErrXml, "<?xml version='1.0' version='1.0'?>": api.ErrXml,
		"<?XML version='1.0'?>": api.ErrXml, "<?xMl ?>": api.ErrXml, "<?xml:a version='1.0'?>": api.ErrXml,
	} {
		wantFault(t, s, 0, e)
		wantFault(t, "\ufeff"+s, 0, e)
	}
}

// The signs are read up to the end ahead of what the attributes must be; then these
// are looked at, one after the other.
func TestOrderOfDeclarationFaults(t *testing.T) {
	for s, e := range map[string]api.Errno{
		"<?xml version='1.0' encoding='latin1' standalone='maybe'?>": api.ErrMethod, "<?xml version='1.0' encoding='latin1' a='1'?>": api.ErrMethod, "<?xml version='1.1' encoding='latin1'?>": api.ErrXml, "<?xml version='1.0' standalone='maybe' encoding='latin1'?>": api.ErrXml, "<?xml version='1.0' a='1' encoding='latin1'?>": api.ErrXml,
		"<?xml version='1.0' encoding='latin1'": api.ErrXml, "<?xml version='1.0' encoding='latin1'>": api.ErrXml, "<?xml version='1.0' encoding='latin1' standalone?>": api.ErrXml, "<?xml version='1.0' encoding='latin1'standalone='no'?>": api.ErrXml, "<?xml version='1.0' encoding='latin1' a='&'?>": api.ErrXml, "<?xml version='1.0' encoding='latin1' encoding='latin1'?>": api.ErrXml,
		"<?xml version='1.1'" + numbered(256) + "?>": api.ErrLimit, "<?xml version='1.1'" + numbered(255) + "?>": api.ErrXml, "<?xml version='1.0' encoding='latin1'" + numbered(254) + "?>": api.ErrMethod, "<?xml version='1.0' encoding='latin1'" + numbered(255): api.ErrLimit,
		"<?xml version='1.0' encoding='latin1'?><!DOCTYPE a>": api.ErrMethod, "<?xml version='1.1'?><!DOCTYPE a>": api.ErrXml,
	} {
		wantFault(t, s, 0, e)
	}
}

// A declaration stands at the very beginning alone.
func TestDeclarationsBehind(t *testing.T) {
	const s = "<?xml version='1.0'?>"
	for _, ahead := range []string{" ", "\n", "a", "<!---->", "<?go?>", "<a/>", s, "<a>"} {
		wantFault(t, ahead+s, len(ahead), api.ErrXml)
	}
	wantFault(t, "\ufeff\ufeff"+s, 3, api.ErrXml)
}

func TestInstructions(t *testing.T) {
	for s, want := range map[string]token.Token{
		"<?go?>": pi(0, "go", ""), "<?go ?>": pi(0, "go", ""), "<?go \t\n?>": pi(0, "go", ""), "<?go a?>": pi(0, "go", "a"), "<?go \n\t a b \n?>": pi(0, "go", "a b \n"), "<?go ??>": pi(0, "go", "?"), "<?go >?>": pi(0, "go", ">"), "<?go ? >?>": pi(0, "go", "? >"),
		"<?go <a>&x;]]>--<!DOCTYPE?>": pi(0, "go", "<a>&x;]]>--<!DOCTYPE"), "<?go &lt;?>": pi(0, "go", "&lt;"), "<?é·9 日?>": pi(0, "é·9", "日"),
		"<?xml2?>": pi(0, "xml2", ""), "<?xmlx version='1.0'?>": pi(0, "xmlx", "version='1.0'"), "<?xml-stylesheet href='a'?>": pi(0, "xml-stylesheet", "href='a'"), "<?x ?>": pi(0, "x", ""), "<?xm xml?>": pi(0, "xm", "xml"), "<?XMLS?>": pi(0, "XMLS", ""), "<?a.xml?>": pi(0, "a.xml", ""),
	} {
		wantTokens(t, s, want)
		want.At = 1
		wantTokens(t, " "+s, text(0, " "), want)
	}
	wantTokens(t, "<?a b?>?>", pi(0, "a", "b"), text(7, "?>"))
}

func TestInstructionFaults(t *testing.T) {
	for _, s := range []string{"<?", "<??>", "<? ?>", "<? a?>", "<?a", "<?a?", "<?a >", "<?a b", "<?a b?", "<?a b? >", "<?a:b?>", "<?1?>", "<?-a?>", "<?.?>", "<?a>?>", "<?a/?>", "<?a\u00a0?>", "<?a=b?>", "<?a<b?>",
		"<?xml?>", "<?XML?>", "<?Xml a?>", "<?xmL ?>", "<?xml a?>", "<?xml version='1.0'?>"} {
		wantFault(t, "<a/>"+s, 4, api.ErrXml)
	}
}

func TestRemarks(t *testing.T) {
	for _, s := range []string{"", "a", " - ", "-a", ">", "->", "- >", "<a>&x;]]><?go?><!DOCTYPE", "\n", "é", "!", "<!- ", "- - - "} {
		wantTokens(t, "<!--"+s+"-->", remark(0, s))
		wantTokens(t, "<!--"+s+"-->-->", remark(0, s), text(7+len(s), "-->"))
	}
	for _, s := range []string{"<!--", "<!---", "<!-->", "<!--->", "<!-- -", "<!----", "<!---- >", "<!-----", "<!----->", "<!-- --->", "<!-- -- -->", "<!-- -- ", "<!-- --x-->", "<!-- <!-- -->", "<!--<!--->", "<!--- - --->"} {
		wantFault(t, "a"+s, 1, api.ErrXml)
	}
}

func TestRawTexts(t *testing.T) {
	for _, s := range []string{"", "a", "<&>", "]", "]]", "]>", "]] >", "&lt;&x;", "<![CDATA[", "<!DOCTYPE", "\n\t", "é", " ", "-->?>"} {
		wantTokens(t, "<![CDATA["+s+"]]>", text(0, s))
	}
	// The first end is the end.
	wantTokens(t, "<![CDATA[a]]>b<![CDATA[c]]>", text(0, "a"), text(13, "b"), text(14, "c"))
	wantTokens(t, "<![CDATA[]]]]>", text(0, "]]"))
	wantFault(t, "<![CDATA[a]]>]]>", 13, api.ErrXml)
	for _, s := range []string{"<![CDATA[", "<![CDATA[]", "<![CDATA[]]", "<![CDATA[ ] ]>", "<![CDATA[ ]] >", "<![CDATA[<![CDATA["} {
		wantFault(t, "a"+s, 1, api.ErrXml)
	}
}

func TestOthers(t *testing.T) {
	for _, s := range []string{"<!", "<!>", "<!-", "<!- -->", "<! --", "<!DOCTYPE a>", "<!doctype a>", "<!ELEMENT a ANY>", "<![", "<![CDATA", "<![CDATA>", "<![cdata[]]>", "<![CDATA []]>", "<![ CDATA[]]>", "<![INCLUDE[]]>", "<!a/>", "<!!---->"} {
		wantFault(t, s, 0, api.ErrMethod)
		wantFault(t, "é<a>"+s, 5, api.ErrMethod)
	}
}

func TestEnds(t *testing.T) {
	for s, name := range map[string]string{"</a>": "a", "</a >": "a", "</a\n\t >": "a", "</a:b>": "a:b", "</_.-9>": "_.-9", "</é·:日 >": "é·:日", "</xmlns:xml>": "xmlns:xml"} {
		wantTokens(t, s, end(0, name))
	}
	for _, s := range []string{"</", "</>", "</ >", "</ a>", "</a", "</a ", "</a/>", "</a b>", "</a b='1'>", "</1>", "</a:>", "</:a>", "</a:1>", "</a:b:c>", "</a: b>", "</a :b>", "</a<", "</a></a<", "</?a>", "</!-->"} {
		at := strings.LastIndex(s, "</")
		wantFault(t, s, at, api.ErrXml)
	}
}

func TestBeginnings(t *testing.T) {
	for s, want := range map[string]token.Token{"<a>": tag(0, "a"), "<a/>": empty(0, "a"), "<a >": tag(0, "a"), "<a />": empty(0, "a"), "<a\t\n\n >": tag(0, "a"), "<a\n/>": empty(0, "a"), "<a:b>": tag(0, "a:b"), "<a:b/>": empty(0, "a:b"), "<A.-_9é:_/>": empty(0, "A.-_9é:_"), "<xml/>": empty(0, "xml"), "<日本>": tag(0, "日本")} {
		wantTokens(t, s, want)
	}
	for _, s := range []string{"<", "<>", "< >", "< a>", "</>", "<a", "<a ", "<a/", "<a/ >", "<a //>", "<a / >", "<a/b>", "<1>", "<-a>", "<.>", "<:>", "<:a>", "<a:>", "<a: b>", "<a :b>", "<a::b>", "<a:1>", "<a:b:c>", "<a:b:>", "<a<", "<a<b>", "<<a>", "<=>", "<a,b>", "<a×>", "<·a>", "<&lt;>", "<'a'>", "<a\u00a0>"} {
		wantFault(t, s, 0, api.ErrXml)
		wantFault(t, "日<x>"+s, 6, api.ErrXml)
	}
}

func TestAttributes(t *testing.T) {
	one := func(name, value string) []token.Attr { return []token.Attr{{Name: name, Value: value}} }
	for s, want := range map[string][]token.Attr{
		" b='1'": one("b", "1"), " b=\"1\"": one("b", "1"), "\n\t b\n = \t'1' \n": one("b", "1"), " b=''": one("b", ""), " b=\"\"": one("b", ""), " b='\"'": one("b", "\""), " b=\"'\"": one("b", "'"), " b=' 1  2 '": one("b", " 1  2 "),
		" p:b='1'": one("p:b", "1"), " xmlns='u'": one("xmlns", "u"), " xmlns:p='u'": one("xmlns:p", "u"), " xml:lang='en'": one("xml:lang", "en"), " é·='日'": one("é·", "日"), " b='>/>=]]>--?>'": one("b", ">/>=]]>--?>"),
		" b='&lt;&gt;&amp;&quot;&apos;'": one("b", "<>&\"'"), " b='\t\n\n'": one("b", "   "), " b='&#9;&#10;&#13;&#32;'": one("b", "\t\n\r "), " b=\"&#34;'\"": one("b", "\"'"), " b='&amp;lt;'": one("b", "&lt;"),
		" b='1' c='2'": {{Name: "b", Value: "1"}, {Name: "c", Value: "2"}}, " c='2'\nb='1'": {{Name: "c", Value: "2"}, {Name: "b", Value: "1"}}, " b='' B='' p:b='' q:b='' b:p=''": {{Name: "b"}, {Name: "B"}, {Name: "p:b"}, {Name: "q:b"}, {Name: "b:p"}},
	} {
		wantTokens(t, "<a"+s+">", tag(0, "a", want...))
		wantTokens(t, "<a"+s+"/>", empty(0, "a", want...))
	}
	for _, s := range []string{" b", " b=", " b='", " b='1", " b=1", " b=1'", " b='1\"", " b='1'c='2'", " b='1'b='1'", "b='1'", " ='1'", " 'b'='1'", " b 'c'", " b=='1'", " =", " b='1',c='2'", " b:='1'", " :b='1'", " b:c:d='1'", " b: c='1'", " b :c='1'", " 1='1'", " -b='1'", " b=>", " b='1'/c='1'", " b=`1`",
		" b='<'", " b='1<2'", " b='&lt;<'", " b='&'", " b='&;'", " b='&x;'", " b='&lt'", " b='& lt;'", " b='&#0;'", " b='a&", " b='1' b='1'", " b='1' c='' b='2'", " p:b='' p:b=''", " é='' c='' é=''", " b='1' / c='2'", " b='1' <", " b='1' &", " b = '1' c"} {
		wantFault(t, "<a"+s+">", 0, api.ErrXml)
		wantFault(t, "x<a"+s+"/>", 1, api.ErrXml)
		wantFault(t, "<a"+s, 0, api.ErrXml)
	}
}

func TestLimitOfAttributes(t *testing.T) {
	for _, n := range []int{255, 256} {
		for _, s := range []string{">", "/>", " >"} {
			list, at, e := token.Scan([]byte("<a" + numbered(n) + s))
			if e != api.OK || at != 0 || len(list) != 1 || len(list[0].Attrs) != n || list[0].Attrs[n-1].Name != fmt.Sprintf("a%d", n-1) {
				t.Errorf("%d: errno %d", n, e)
			}
		}
	}
	for _, s := range []string{"", ">", "/>", " ", "<", "&", " b=", " a0=''>", " a256=''>", "c", numbered(300) + ">"} {
		wantFault(t, "<a"+numbered(257)+s, 0, api.ErrLimit)
		wantFault(t, "é<!----><a"+numbered(257)+s, 9, api.ErrLimit)
	}
	// What is wrong with the 257th one itself, or ahead of it, goes ahead.
	for _, s := range []string{" b", " b=", " b='", " b='1", " b='<'", " b='&'", " b='&x;'", " a0=''", " a255=''", "b=''", " b:=''", " 1=''", " b=''", " /b=''"} {
		e := api.ErrXml
		if s == " b=''" {
			e = api.ErrLimit
		}
		wantFault(t, "<a"+numbered(256)+s+">", 0, e)
		wantFault(t, "<a"+s+numbered(256)+" a0=''>", 0, e)
	}
	// Each beginning has its own.
	list, _, e := token.Scan([]byte(strings.Repeat("<a"+numbered(256)+"/>", 3)))
	if e != api.OK || len(list) != 3 {
		t.Error(e)
	}
}

func TestTexts(t *testing.T) {
	for s, want := range map[string]string{"a": "a", " ": " ", "\n\t ": "\n\t ", ">": ">", "]]": "]]", "]]]": "]]]", "]>": "]>", "]] >": "]] >", "a\"'b=/-->?>": "a\"'b=/-->?>", "]]&gt;": "]]>", "&#93;]>": "]]>", "&lt;a&gt;&amp;": "<a>&", "&#x3c;!": "<!", "é日😀": "é日😀", "&amp;amp;": "&amp;", "&#13;\n": "\r\n", "\u00a0\u2028": "\u00a0\u2028"} {
		wantTokens(t, s, text(0, want))
		wantTokens(t, "<a>"+s+"</a>", tag(0, "a"), text(3, want), end(3+len(s), "a"))
	}
	for _, s := range []string{"]]>", "a]]>b", "]]]>", "]]>&", "&", "&;", "a&", "&x;", "& ", "&lt", "&LT;", "&lt ;", "&am<a/>p;", "&amp;&", "&#;", "&nbsp;", "&x;<!"} {
		wantFault(t, s, 0, api.ErrXml)
		wantFault(t, "<a>"+s+"</a>", 3, api.ErrXml)
	}
}

// The first token that isn't as told, at its own place, is the fault.
func TestFirstFault(t *testing.T) {
	for s, want := range map[string]fault{"<a/>&<!": {4, api.ErrXml}, "<a/><!&": {4, api.ErrMethod}, "a<!x]]>": {1, api.ErrMethod}, "a]]><!": {0, api.ErrXml}, "<a b='<!": {0, api.ErrXml}, "<a><!--<!": {3, api.ErrXml}, "<a><1><!": {3, api.ErrXml},
		"é\r\n<a>\r\n\r\n&x;": {6, api.ErrXml}, "\r\r\n\r<!": {3, api.ErrMethod}, "\ufeffé<!": {2, api.ErrMethod}, "<![CDATA[]]><!": {12, api.ErrMethod}, "<?a?><?xml?><!": {5, api.ErrXml}, "</a></ a><!": {4, api.ErrXml}, "&lt;<!": {4, api.ErrMethod}, "<a" + numbered(257) + "<!": {0, api.ErrLimit}, "<!<a" + numbered(257): {0, api.ErrMethod}} {
		wantFault(t, s, want.at, want.e)
	}
}

// All names of one sign, and of one behind another.
func TestSignsOfNames(t *testing.T) {
	for r := rune(0); r <= utf8.MaxRune; r++ {
		sign := string(r)
		// What else stands where a name may, and isn't the name's.
		if !utf.Char(r) || strings.ContainsAny(sign, "!/?: \t\n\r>") {
			continue
		}
		_, _, first := token.Scan([]byte("<" + sign + "/>"))
		_, _, behind := token.Scan([]byte("</a:b" + sign + ">"))
		if (first == api.OK) != utf.Begins(r) || (behind == api.OK) != utf.Goes(r) {
			t.Errorf("%x: errnos %d and %d", r, first, behind)
		}
	}
	for s, want := range map[string]bool{"<a·/>": true, "<·/>": false, "<a:·/>": false, "<a:b·/>": true, "<?a·?>": true, "<?·?>": false, "<a b·=''/>": true, "<a ·=''/>": false, "<a b:·=''/>": false, "<\u037e/>": false, "<\u037f/>": true, "</\u00d7>": false, "</\U000effff>": true, "</\U000f0000>": false} {
		if list, _, e := token.Scan([]byte(s)); (e == api.OK) != want || e == api.OK && len(list) != 1 {
			t.Errorf("%q: %v, errno %d", s, list, e)
		}
	}
}

// P12.2: texts

func TestReferences(t *testing.T) {
	for s, want := range map[string]string{"&lt;": "<", "&gt;": ">", "&amp;": "&", "&quot;": "\"", "&apos;": "'", "&#65;": "A", "&#x41;": "A", "&#x4a;&#x4A;": "JJ", "&#9;&#10;&#13;": "\t\n\r", "&#xd;&#xD;": "\r\r", "&#0009;": "\t",
		"&#0000000000065;": "A", "&#x00000000000041;": "A", "&#1114111;": "\U0010ffff", "&#x10fFfF;": "\U0010ffff", "&#x0010FFFF;": "\U0010ffff", "&#55295;": "\ud7ff", "&#57344;": "\ue000", "&#xFFFD;": "\ufffd", "&#x10000;": "\U00010000", "&#233;": "é", "&#128512;": "😀",
		"a&lt;b&gt;": "a<b>", "&amp;lt;": "&lt;", "&amp;#65;": "&#65;", ";&lt;;": ";<;", "&#38;amp;": "&amp;", "#65;": "#65;", strings.Repeat("&amp;", 100000): strings.Repeat("&", 100000), "&#" + strings.Repeat("0", 100000) + "65;": "A"} {
		if x, ok := token.Text(s); !ok || x != want {
			t.Errorf("%.200q: %.200q, %v", s, x, ok)
		}
		wantTokens(t, s, text(0, want))
		wantTokens(t, "<a b='"+s+"'/>", empty(0, "a", token.Attr{Name: "b", Value: want}))
	}
}

func TestReferencesThatAreNone(t *testing.T) {
	for _, s := range []string{"&", "&;", "&&;", "& ;", "&lt", "&l;", "&ltt;", "&LT;", "&Amp;", "& lt;", "&lt ;", "&l&lt;t;", "&apos", "&nbsp;", "&é;", "&a:b;",
		"&#", "&#;", "&# ;", "&#x", "&#x;", "&#X41;", "&#a;", "&#4a;", "&#x4g;", "&#-5;", "&#+65;", "&#x+41;", "&#x-41;", "&#0x41;", "&#x0x41;", "&# 65;", "&#65 ;", "&#6_5;", "&#x4_1;", "&#6.5;", "&#65", "&#x41", "&#xx41;", "&##65;", "&#٤;", "&#1e1;", "&65;", "&x41;",
		"&#0;", "&#000;", "&#x0;", "&#1;", "&#8;", "&#11;", "&#12;", "&#14;", "&#31;", "&#x1F;", "&#55296;", "&#xDFFF;", "&#xD83D;&#xDE00;", "&#65534;", "&#xFFFF;", "&#1114112;", "&#x110000;", "&#9999999;", "&#xFFFFFFF;", "&#10000000;", "&#12345678;", "&#x10000041;",
		"&#4294967361;", "&#x100000041;", "&#18446744073709551681;", "&#x10000000000000041;", "&#" + strings.Repeat("9", 100000) + ";", "&#x" + strings.Repeat("0", 1000) + "110000;", strings.Repeat("&amp", 100000)} {
		for _, ahead := range []string{"", "a", "&lt;"} {
			if x, ok := token.Text(ahead + s + "z"); ok || x != "" {
				t.Errorf("%.200q: %.200q, %v", ahead+s, x, ok)
			}
			wantFault(t, ahead+s+"z", 0, api.ErrXml)
			wantFault(t, "<a b='"+ahead+s+"z'/>", 0, api.ErrXml)
		}
	}
}

func TestText(t *testing.T) {
	for s, want := range map[string]string{"": "", "a": "a", "a>b": "a>b", "]]": "]]", "]>": "]>", "]]&gt;": "]]>", "\t\n ": "\t\n ", "\"'": "\"'", "\ufeffa": "\ufeffa", "&#xfeff;": "\ufeff", "é日😀": "é日😀", "\u0085\u007f\ufffd": "\u0085\u007f\ufffd", "&#13;&#10;": "\r\n"} {
		if x, ok := token.Text(s); !ok || x != want {
			t.Errorf("%q: %q, %v", s, x, ok)
		}
	}
	for _, s := range []string{"<", "a<b", "<a/>", "&lt;<", "]]>", "a]]>b", "]]]>", "\r", "a\r\n", "&lt;\r", "\x00", "\x01", "a\x0b", "\x1f", "\ufffe", "\uffff", "\xff", "a\xc3", "\xed\xa0\x80", "\xc0\x80", "\xf4\x90\x80\x80", "&x;", "a&", "&lt;\xff"} {
		if x, ok := token.Text(s); ok || x != "" {
			t.Errorf("%q: %q, %v", s, x, ok)
		}
	}
}

func TestEscape(t *testing.T) {
	const all = "a&<>\"'\r\n\té😀]]>&amp;\r\n"
	if x, ok := token.Escape(all, false); !ok || x != "a&amp;&lt;&gt;\"'&#13;\n\té😀]]&gt;&amp;amp;&#13;\n" {
		t.Errorf("%q, %v", x, ok)
	}
	if x, ok := token.Escape(all, true); !ok || x != "a&amp;&lt;&gt;&quot;'&#13;&#10;&#9;é😀]]&gt;&amp;amp;&#13;&#10;" {
		t.Errorf("%q, %v", x, ok)
	}
	for _, quoted := range []bool{false, true} {
		for _, s := range []string{"\x00", "a\x01", "\ufffe", "é\uffff", "\xff", "&\xff", "\xc3", "\xed\xb0\x80", "<\x1b>"} {
			if x, ok := token.Escape(s, quoted); ok || x != "" {
				t.Errorf("%q: %q, %v", s, x, ok)
			}
		}
		if x, ok := token.Escape("", quoted); !ok || x != "" {
			t.Errorf("%q, %v", x, ok)
		}
	}
}

// P12.3: there and back, and memory

// All signs, as texts, as references, and escaped.
func TestAllSigns(t *testing.T) {
	for r := rune(0); r <= utf8.MaxRune; r++ {
		s := "é" + string(r) + "b"
		want, ok := s, utf.Char(r)
		if !ok {
			want = ""
		}
		for _, ref := range []string{fmt.Sprintf("é&#%d;b", r), fmt.Sprintf("é&#x%X;b", r), fmt.Sprintf("é&#x000%x;b", r)} {
			if x, got := token.Text(ref); x != want || got != ok {
				t.Errorf("%s: %q, %v", ref, x, got)
			}
		}
		if !utf8.ValidRune(r) {
			continue
		}
		if x, got := token.Text(s); got != (ok && !strings.ContainsAny(s, "&<\r")) || got && x != s {
			t.Errorf("%x: %q, %v", r, x, got)
		}
		wantEscapedAs(t, s, ok)
	}
}

// wantEscapedAs asks whether a text is escaped, or refused, and told as it was.
func wantEscapedAs(t *testing.T, s string, want bool) {
	t.Helper()
	for _, quoted := range []bool{false, true} {
		x, ok := token.Escape(s, quoted)
		if ok != want || !ok && x != "" {
			t.Errorf("%q, %v: %q, %v", s, quoted, x, ok)
		}
		if back, told := token.Text(x); ok && (!told || back != s) {
			t.Errorf("%q, %v, back from %q: %q, %v", s, quoted, x, back, told)
		}
	}
}

func TestEscapedThereAndBack(t *testing.T) {
	s := &numbers{97531}
	pieces := []string{"&", "<", ">", "]", "]]>", "\"", "'", "\r", "\n", "\t", " ", "a", ";", "#", "lt;", "&amp;", "&#13;", "é", "😀", "\ufeff"}
	for range 20000 {
		text := ""
		for range s.below(10) {
			text += pieces[s.below(len(pieces))]
		}
		wantEscaped(t, text)
	}
}

// Texts of all pieces behind the beginnings of tokens, up to a length.
func TestAllShortTexts(t *testing.T) {
	pieces := []string{"<", ">", "/", "a", ":", "=", "'", "\"", " ", "\r", "!", "?", "-", "]", "&", ";", "xml", "lt", "é", "1", "<a", "=''", "?>", "--", "]]>", "<?", "</", "\xff"}
	for _, ahead := range []string{"", "\ufeff", "<a b", "<a b=''", "</a", "<!--", "<![CDATA[", "<?a", "<?xml", "<?xml version='1.0'", "<?xml version='1.0' encoding='x'", "&#", "<a b='&lt;", "a]"} {
		texts := []string{ahead}
		for range 3 {
			var longer []string
			for _, text := range texts {
				wantSame(t, text)
				for _, piece := range pieces {
					longer = append(longer, text+piece)
				}
			}
			texts = longer
		}
		if ahead != "" {
			continue
		}
		for _, text := range texts {
			wantSame(t, text)
		}
	}
}

// Texts of whole tokens, some with a piece taken out, put in, or changed.
func TestAnyTexts(t *testing.T) {
	s := &numbers{24680}
	tokens := []string{"<a>", "<a/>", "</a>", "<p:b c='1' d=\"2\">", "<a b = '&lt;\n&#10;' >", "text", " \r\n", "&amp;", "&#x41;", "]]", "<!-- - -->", "<![CDATA[<]]>", "<?go on?>", "<?go?>", "<é·/>", "日", "<a b='1' c='2' b:c='3'/>", "<?xml version='1.0' encoding='Utf-8' standalone='no'?>"}
	pieces := []string{"<", ">", "/", "'", "\"", "&", ";", "=", " ", "-", "?", "]", "!", ":", "a", "b", "\r", "\n", "\t", "\x00", "\xff", "<!", "]]>", "<?xml "}
	good := 0
	for range 60000 {
		text := ""
		for range s.below(6) {
			text += tokens[s.below(len(tokens))]
		}
		if s.below(2) == 0 {
			text = "<?xml version='1.0'?>" + text
		}
		for range s.below(3) {
			at := s.below(len(text) + 1)
			behind := text[at:]
			if s.below(2) == 0 && behind != "" {
				behind = behind[1:]
			}
			if s.below(2) == 0 {
				behind = pieces[s.below(len(pieces))] + behind
			}
			text = text[:at] + behind
		}
		if wantSame(t, text) {
			good++
		}
	}
	if good < 10000 || good > 50000 {
		t.Error(good)
	}
}

func TestSomeTexts(t *testing.T) {
	for _, text := range someTexts {
		wantSame(t, text)
		for cut := range len(text) {
			wantSame(t, text[:cut])
			wantSame(t, text[cut:])
		}
	}
}

// Long texts take no longer than short ones, byte by byte.
func TestLongTexts(t *testing.T) {
	for _, c := range []struct {
		s, behind string
		tokens    int
	}{
		{"<a/>", "", 1 << 20}, {"&lt;", "", 1}, {"é<a b='&#65;'>", "", 2 << 20}, {"<!---->", "", 1 << 20}, {"]", "", 1}, {"<a", "", 0}, {"&", "", 0}, {"<a b='", "", 0}, {"<!--", "", 0}, {"<?a ", "?>", 1}, {"]]&gt;", "", 1}, {"\r\n", "", 1},
	} {
		list, _, e := token.Scan([]byte(strings.Repeat(c.s, 1<<20) + c.behind))
		if len(list) != c.tokens || (e == api.OK) != (c.tokens > 0) {
			t.Errorf("%q: %d tokens, errno %d", c.s, len(list), e)
		}
	}
	name := strings.Repeat("n", 1<<22)
	wantTokens(t, "<"+name+":"+name+" "+name+"='"+name+"'/>", empty(0, name+":"+name, token.Attr{Name: name, Value: name}))
}

// roomy: bytes with room behind them, in which there is something.
func roomy(text string) []byte {
	return []byte(text + "<behind the='length'/>")[:len(text)]
}

// wantKept asks whether roomy bytes, and what is behind them, are as they were.
func wantKept(t *testing.T, b []byte, text string) {
	t.Helper()
	if string(b[:len(text)+22]) != text+"<behind the='length'/>" {
		t.Errorf("%q is changed", text)
	}
}

// scribble writes to all of an answer, and to the room behind its lists.
func scribble(list []token.Token) {
	list = list[:cap(list)]
	for i := range list {
		attrs := list[i].Attrs[:cap(list[i].Attrs)]
		for k := range attrs {
			attrs[k] = token.Attr{Name: "scribbled", Value: "too"}
		}
		list[i] = token.Token{Kind: -1, Name: "scribbled", Text: "too", Empty: true, At: -1}
	}
}

// copied: tokens that share no list with others.
func copied(list []token.Token) []token.Token {
	list = slices.Clone(list)
	for i := range list {
		list[i].Attrs = slices.Clone(list[i].Attrs)
	}
	return list
}

func TestNothingIsChanged(t *testing.T) {
	for _, text := range someTexts {
		b := roomy(text)
		list, at, e := token.Scan(b)
		wantKept(t, b, text)
		// What is behind the length isn't looked at, either.
		if want, wantAt, wantE := slowScan([]byte(text)); at != wantAt || e != wantE || !equal(list, want) {
			t.Errorf("%q: %v", text, list)
		}
		want := copied(list)
		scribble(list)
		wantKept(t, b, text)
		if again, _, _ := token.Scan(b); !equal(again, want) {
			t.Errorf("%q: %v, want %v", text, again, want)
		}
	}
}

func TestNothingIsKept(t *testing.T) {
	for _, text := range someTexts {
		b := roomy(text)
		list, _, _ := token.Scan(b)
		other, _, _ := token.Scan(b)
		want := copied(list)
		for i := range b[:cap(b)] {
			b[:cap(b)][i] = 'x'
		}
		scribble(other)
		if !equal(list, want) {
			t.Errorf("%q: %v, want %v", text, list, want)
		}
	}
}

// No two lists of attributes share any of their room.
func TestListsAreApart(t *testing.T) {
	text := strings.Repeat("<a b='1' c='2' d='3'/><e/><f g='4'/>", 20)
	list, _, _ := token.Scan([]byte(text))
	for i := range list {
		want := copied(list)
		attrs := list[i].Attrs[:cap(list[i].Attrs)]
		for k := range attrs {
			attrs[k] = token.Attr{Name: "scribbled"}
		}
		want[i].Attrs = attrs[:len(list[i].Attrs)]
		if !equal(list, want) {
			t.Fatalf("%d: %v, want %v", i, list, want)
		}
	}
}

func FuzzScan(f *testing.F) {
	for _, text := range someTexts {
		f.Add([]byte(text))
	}
	f.Fuzz(func(t *testing.T, b []byte) {
		text := bytes.Clone(b)
		wantSame(t, string(b))
		token.Scan(b)
		if !bytes.Equal(b, text) {
			t.Error("changed")
		}
	})
}
