package json

import (
	"bytes"
	"encoding/json"
	"fmt"
	"math/rand"
	"regexp"
	"slices"
	"strings"
	"testing"

	"platen/api"
)

// rich has each kind of token, and blanks of each kind around each.
const rich = " \t\n\r{ \"a\\u00e9\" :\t[ true ,\nfalse , null\r, -0.5E+10 , [ ] , { } ] , \"\" : { \"\\\"\\\\\\/\\b\\f\\n\\r\\t\" : 12e-3 }\n} \r\n\t "

// kinds tells for the first byte of a token which kind it is of.
func kinds(c byte) byte {
	switch c {
	case '{', '[':
		return api.Open
	case '}', ']':
		return api.Close
	case ',':
		return api.Comma
	case ':':
		return api.Colon
	}
	return api.Atom
}

// parts is what the tokens of a text that conforms are.
var parts = regexp.MustCompile(`(?s)[][{}:,]|"(\\.|[^"\\])*"|[-+.0-9A-Za-z]+`)

// tokens is the tokens of a text that conforms.
func tokens(s string) []api.Token {
	var l []api.Token
	for _, at := range parts.FindAllStringIndex(s, -1) {
		l = append(l, api.Token{Kind: kinds(s[at[0]]), At: at[0], N: at[1] - at[0]})
	}
	return l
}

// closers is what ends the lists and objects that are open at the end of a text.
func closers(s string) string {
	var open []byte
	quoted := false
	for i := 0; i < len(s); i++ {
		switch c := s[i]; {
		case quoted && c == '\\':
			i++
		case c == '"':
			quoted = !quoted
		case quoted:
		case c == '[':
			open = append(open, ']')
		case c == '{':
			open = append(open, '}')
		case (c == ']' || c == '}') && len(open) > 0:
			open = open[:len(open)-1]
		}
	}
	slices.Reverse(open)
	return string(open)
}

// goesOn reports whether a text that conforms begins with s: what a token may lack, what a value or a member may lack, and what ends the lists are tried in all ways.
func goesOn(s string) bool {
	end := closers(s)
	for _, token := range []string{"", "0", `"`, `n"`, `0"`, `00"`, `000"`, `0000"`, "rue", "ue", "e", "alse", "lse", "se", "ull", "ll", "l"} {
		for _, more := range []string{"", "0", ":0", `"":0`} {
			if json.Valid([]byte(s + token + more + end)) {
				return true
			}
		}
	}
	return false
}

// fault is the offset of the first of a text's bytes from some of them on with which no text that conforms begins; false, if there is none.
func fault(s string, from int) (int, bool) {
	for i := from; i < len(s); i++ {
		if !goesOn(s[:i+1]) {
			return i, true
		}
	}
	return 0, false
}

// holds checks what Read answers against what it must answer.
func holds(t *testing.T, s string, want []api.Token, wantAt int, wantErr api.Errno) {
	t.Helper()
	p := []byte(s)
	l, at, e := Read(p)
	if at != wantAt || e != wantErr || !slices.Equal(l, want) {
		t.Errorf("Read(%.60q, of %d bytes) = %v, %d, %d, not %v, %d, %d", s, len(s), few(l), at, e, few(want), wantAt, wantErr)
	}
	if string(p) != s {
		t.Errorf("Read(%.60q) has changed its argument", s)
	}
}

// few is the beginning of a list, which may be too long to be told.
func few(l []api.Token) string {
	return fmt.Sprint(len(l), " tokens ", l[:min(len(l), 20)])
}

// reads checks that a text conforms, and its tokens.
func reads(t *testing.T, s string) {
	t.Helper()
	holds(t, s, tokens(s), 0, api.OK)
}

// fails checks that a text has a syntax error at an offset.
func fails(t *testing.T, s string, at int) {
	t.Helper()
	holds(t, s, nil, at, api.ErrSyntax)
}

// check holds Read against the words of the chapter.
func check(t *testing.T, s string) {
	t.Helper()
	checkFrom(t, s, 0)
}

// checkFrom is check for a text of which some bytes are known to be the beginning of one that conforms; it reports whether all are.
func checkFrom(t *testing.T, s string, from int) bool {
	t.Helper()
	at, wrong := fault(s, from)
	switch {
	case wrong:
		fails(t, s, at)
	case json.Valid([]byte(s)):
		reads(t, s)
	default:
		fails(t, s, len(s))
	}
	return !wrong
}

// each checks all texts of at most n of the parts, up to the part with which an error comes.
func each(t *testing.T, parts []string, start string, n int) {
	var more func(string, int, int)
	more = func(s string, from, left int) {
		if !checkFrom(t, s, from) || left == 0 || t.Failed() {
			return
		}
		for _, p := range parts {
			more(s+p, len(s), left-1)
		}
	}
	more(start, 0, n)
}

// P8.1: the tokens, where they are and how long.
func TestTokens(t *testing.T) {
	for s, want := range map[string][]api.Token{
		"[1, 2]":         {{Kind: api.Open, At: 0, N: 1}, {Kind: api.Atom, At: 1, N: 1}, {Kind: api.Comma, At: 2, N: 1}, {Kind: api.Atom, At: 4, N: 1}, {Kind: api.Close, At: 5, N: 1}},
		"{\"a\" :\n-1 }": {{Kind: api.Open, At: 0, N: 1}, {Kind: api.Atom, At: 1, N: 3}, {Kind: api.Colon, At: 5, N: 1}, {Kind: api.Atom, At: 7, N: 2}, {Kind: api.Close, At: 10, N: 1}},
		"[]":             {{Kind: api.Open, At: 0, N: 1}, {Kind: api.Close, At: 1, N: 1}},
		"\t{\r}\n":       {{Kind: api.Open, At: 1, N: 1}, {Kind: api.Close, At: 3, N: 1}},
		"0":              {{Kind: api.Atom, At: 0, N: 1}},
		" -12.50e+03 ":   {{Kind: api.Atom, At: 1, N: 10}},
		"true":           {{Kind: api.Atom, At: 0, N: 4}},
		"\nfalse":        {{Kind: api.Atom, At: 1, N: 5}},
		"null\r":         {{Kind: api.Atom, At: 0, N: 4}},
		`""`:             {{Kind: api.Atom, At: 0, N: 2}},
		`"a [,:] b"`:     {{Kind: api.Atom, At: 0, N: 10}},
		`"\"\\"`:         {{Kind: api.Atom, At: 0, N: 6}},
		"\"\u20ac\xff\"": {{Kind: api.Atom, At: 0, N: 6}},
	} {
		holds(t, s, want, 0, api.OK)
	}
	reads(t, rich)
	if n := len(tokens(rich)); n != 27 {
		t.Errorf("the rich text has %d tokens", n)
	}
}

// P8.1: the examples, and one error of each kind.
func TestSyntax(t *testing.T) {
	for s, at := range map[string]int{
		"[1, 2": 5, "[01]": 2,
		// Nothing, and blanks alone.
		"": 0, " ": 1, " \t\n\r ": 5,
		// A second value, and what ends nothing.
		"1 2": 2, "{}[]": 2, "[] []": 3, `""""`: 2, "null null": 5, "[]]": 2, "{}}": 2, "0]": 1, "0,": 1, "0:": 1, "]": 0, "}": 0, ",": 0, ":": 0, " ]": 1,
		// Commas and colons, too many or too few.
		"[,": 1, "[,]": 1, "[1,]": 3, "[1,,2]": 3, "[1 2]": 3, "[1:2]": 2, "[:]": 1, `["a":1]`: 4, "[[],]": 4, "[[][]]": 3,
		"{,": 1, "{,}": 1, `{"a"}`: 4, `{"a",}`: 4, `{"a" 1}`: 5, `{"a":}`: 5, `{"a"::1}`: 5, `{"a":,}`: 5, `{"a":1,}`: 7, `{"a":1,,}`: 7, `{"a":1"b":2}`: 6, `{"a":1:2}`: 6, `{"a":1 "b"}`: 7, "{:1}": 1, `{"a":1,2}`: 7,
		// Names that are no strings.
		"{1": 1, "{a": 1, "{null": 1, "{[": 1, "{{": 1, "{-": 1, "{'": 1, `{"a":1,b`: 7,
		// One list's end at the other.
		"[}": 1, "{]": 1, "[1}": 2, `{"a":1]`: 6, `[{"a":1]`: 7, "[{]": 2, "[[}": 2,
		// Numbers.
		"-": 1, "+": 0, "+1": 0, "-a": 1, "--1": 1, "-+1": 1, "- 1": 1, "01": 1, "00": 1, "-01": 2, "-00": 2, "0x1": 1, "1a": 1, "1-": 1, "1+1": 1, "1_0": 1, ".": 0, ".5": 0, "-.5": 1, "1.": 2, "1.e": 2, "1.e5": 2, "1.-5": 2, "1. ": 2, "1.]": 2, "1..5": 2, "1.5.5": 3, "1.5a": 3,
		"1e": 2, "1E": 2, "1e+": 3, "1E-": 3, "1e ": 2, "1e]": 2, "1e+ ": 3, "1e.5": 2, "1e5.": 3, "1e5e": 3, "1e+-5": 3, "1ee": 2, "0e": 2, "0.": 2, "1.5e": 4, "1e5-": 3, "e5": 0, "NaN": 0, "Infinity": 0, "-I": 1, "inf": 0,
		// Words.
		"t": 1, "tru": 3, "trux": 3, "tRue": 1, "True": 0, "TRUE": 0, "true1": 4, "truee": 4, "truefalse": 4, "true\"": 4, "f": 1, "fals": 4, "falsa": 4, "n": 1, "nul": 3, "nulL": 3, "nan": 1, "nil": 1, "undefined": 0, "tr ue": 2, "x": 0, "[tru]": 4, "[nul,": 4,
		// Strings.
		`"`: 1, `"a`: 2, `"a\`: 3, `"\"`: 3, `"a" "`: 4, "'a'": 0, "`": 0, "\"\n": 1, "\"a\tb\"": 2, "\"\x00\"": 1, "\"a\x1f\"": 2, "\"\r": 1,
		`"\x`: 2, `"\x"`: 2, `"\U0000"`: 2, `"\a"`: 2, `"\v"`: 2, `"\0"`: 2, `"\'"`: 2, `"\ "`: 2, "\"\\\n\"": 2, "\"\\\x00": 2, "\"\\\xff": 2, `"\B"`: 2, `"\N"`: 2,
		`"\u`: 3, `"\u"`: 3, `"\u0`: 4, `"\u0"`: 4, `"\u00`: 5, `"\u00"`: 5, `"\u12g`: 5, `"\u000`: 6, `"\u000"`: 6, `"\u000g"`: 6, `"\u0000`: 7, `"\ug000"`: 3, `"\u+000"`: 3, `"\u{20}"`: 3, `"\u 000"`: 3, `"\uuu`: 3, `"\u00\u"`: 5,
		// What is no blank, and what stands where nothing is allowed.
		"\v1": 0, "\f1": 0, "1\v": 1, "1\f": 1, "\x001": 0, "1\x00": 1, "\u00a01": 0, "1\u00a0": 1, "\ufeff1": 0, "1\u2028": 1, "\xff": 0, "[\x00]": 1, "[\xff": 1, "// a": 0, "1 // a": 2, "/**/1": 0, "# a": 0, "\\": 0, "[1\x7f]": 2, "\x00": 0, "[\x00": 1, "{\x00": 1, "-\x00": 1, "1.\x00": 2, "tr\x00": 2, "\"a\x00": 2,
	} {
		fails(t, s, at)
		// The table is held against the words of the chapter too.
		check(t, s)
	}
}

// P8.1: texts that conform.
func TestConforms(t *testing.T) {
	for _, s := range []string{
		"0", "-0", "7", "-7", "10", "1234567890", "0.0", "-0.0E+10", "0e0", "0E-0", "0e00", "1.5", "1.50", "1.05", "10.01e010", "1e5", "1E5", "1e+5", "1E-5", "-1.5e-05", "1e999999999999999999999", "123456789012345678901234567890",
		"true", "false", "null", `"true"`, `""`, `" "`, `"a"`, `"'"`, `"/"`, `"//"`, "\"\x7f\"", "\"\x20\"", "\"\xff\xfe\x80\xc0\"", "\"\xed\xa0\x80\"", "\"\u2028\u2029\u00a0\ufeff\"", "\"\u20ac \U0001f600\"",
		`"\""`, `"\\"`, `"\/"`, `"\b\f\n\r\t"`, `"\u0000"`, `"\u0019\u00aF\uABCD\uabcd\uffff"`, `"\ud800"`, `"\udc00\ud800"`, `"\u00e9x"`, `"\\u"`, `"\\\""`, `"\u00222"`, `"[{]},:"`,
		"[]", "{}", "[ ]", "{ }", "[0]", "[0,0]", "[[]]", "[{}]", "[[],{}]", `{"":0}`, `{"a":[]}`, `{"a":{}}`, `{"a":{"a":0}}`, `{"a":0,"a":0}`, `[null,true,false,"",-1,[],{}]`, `["a",["b",["c"]],"d"]`, `{"a":null,"b":"","c":[{"d":1}]}`,
	} {
		check(t, s)
		reads(t, s)
		for _, blanks := range []string{" ", "\t", "\n", "\r", "  \r\n\t "} {
			reads(t, blanks+s)
			reads(t, s+blanks)
			reads(t, blanks+s+blanks)
			var around strings.Builder
			for _, k := range tokens(s) {
				around.WriteString(blanks + s[k.At:k.At+k.N] + blanks)
			}
			reads(t, around.String())
			if len(tokens(around.String())) != len(tokens(s)) {
				t.Errorf("%q has other tokens than %q", around.String(), s)
			}
		}
	}
}

// P8.1: all texts of a few parts.
func TestShort(t *testing.T) {
	each(t, []string{"[", "]", "{", "}", ",", ":", `"a"`, "1", " "}, "", 6)
	each(t, []string{"-", "+", ".", "e", "E", "0", "1", "9", " "}, "", 6)
	each(t, []string{"-", ".", "e", "0", "1", ",", "]"}, "[", 6)
	each(t, []string{`"`, `\`, "/", "u", "n", "x", "0", "F", "\n", "\x1f", " ", "\x7f", "\x80"}, `"`, 4)
	each(t, []string{"0", "a", "F", "g", `"`, `\`}, `"\u`, 6)
	each(t, []string{"t", "r", "u", "e", "f", "a", "l", "s", "n", " "}, "", 6)
}

// P8.1: each byte, instead of each byte of a text and ahead of it.
func TestBytes(t *testing.T) {
	for _, s := range []string{"{\"a\\u0e9F\\n\":\t[true,-10.5e+1 ]}", "[false,null]\n", "1 ", `""`} {
		for at := range len(s) + 1 {
			for c := range 256 {
				ahead := s[:at] + string([]byte{byte(c)})
				checkFrom(t, ahead+s[at:], at)
				checkFrom(t, ahead+s[min(at+1, len(s)):], at)
			}
		}
	}
}

// P8.1: texts cut at each byte, which end too early.
func TestCut(t *testing.T) {
	for _, s := range []string{strings.TrimRight(rich, " \t\r\n"), "[1,2]", `{"a":{"b":[]}}`, `"a\u00e9\n"`, "true", "false", "null", `["\\"]`, "[-0.5e+1]"} {
		for n := range len(s) {
			fails(t, s[:n], n)
		}
		reads(t, s)
	}
	// Of numbers alone some beginnings are whole.
	for s, whole := range map[string]bool{"-": false, "-1": true, "-10": true, "-10.": false, "-10.2": true, "-10.2e": false, "-10.2e-": false, "-10.2e-3": true} {
		if whole {
			reads(t, s)
		} else {
			fails(t, s, len(s))
		}
	}
}

// P8.1: what is removed from a text, or doubled in it.
func TestTokenwise(t *testing.T) {
	l := tokens(rich)
	for _, k := range l {
		ahead, token, behind := rich[:k.At], rich[k.At:k.At+k.N], rich[k.At+k.N:]
		check(t, ahead+behind)
		check(t, ahead+token+token+behind)
		check(t, ahead+token+" "+token+behind)
		for _, other := range l {
			check(t, ahead+rich[other.At:other.At+other.N]+behind)
		}
	}
}

// P8.1: texts that are changed at random.
func TestRandom(t *testing.T) {
	r := rand.New(rand.NewSource(8))
	some := "[]{},:\"\\u0123eE+-.truefalsn \n\x00\xff"
	for range 2000 {
		p := []byte(rich)
		for range 1 + r.Intn(3) {
			at := r.Intn(len(p))
			switch c := some[r.Intn(len(some))]; r.Intn(3) {
			case 0:
				p[at] = c
			case 1:
				p = slices.Insert(p, at, c)
			default:
				p = slices.Delete(p, at, min(at+1+r.Intn(3), len(p)))
			}
		}
		check(t, string(p))
	}
}

// P8.1: lists and objects within MaxDepth others.
func TestDeep(t *testing.T) {
	n := api.MaxDepth
	for _, c := range []struct{ open, close string }{{"[", "]"}, {"[0, ", ", 0 ]"}, {`{"a":`, "}"}, {` { "" : 0 , "a" : `, " , \"b\" : 1\n}\n"}, {"[{\"a\":", "}]"}} {
		// The last pair opens two in one.
		m := n
		if strings.HasPrefix(c.open, "[{") {
			m = n / 2
		}
		open, close := strings.Repeat(c.open, m), strings.Repeat(c.close, m)
		first := len(c.open) - len(strings.TrimLeft(c.open, " "))
		reads(t, open+"0"+close)
		fails(t, open, len(open))
		fails(t, open+"0"+close+"]", len(open+close)+1)
		fails(t, open+"}", len(open))
		// Within the deepest one there may be none, not even an empty one; the error is there whatever follows.
		for _, inner := range []string{"[]", "{}", "[", "{", "[x", "{x", "[[", "{]"} {
			holds(t, open+inner, nil, len(open), api.ErrDeep)
			holds(t, open+inner+close, nil, len(open), api.ErrDeep)
		}
		holds(t, open+c.open, nil, len(open)+first, api.ErrDeep)
		holds(t, open+"\n [", nil, len(open)+2, api.ErrDeep)
		// Brackets in strings are none.
		reads(t, open+`"[{[{"`+close)
	}
	inner := strings.Repeat("[", n-1)
	outer := strings.Repeat("]", n-1)
	// Those side by side are not within one another.
	reads(t, inner+"[],{},[],{},[0],{\"a\":0}"+outer)
	reads(t, "["+strings.Repeat("[],{},", 3*n)+"0]")
	holds(t, inner+"[],{},[[]]"+outer, nil, len(inner)+7, api.ErrDeep)
	holds(t, inner+"[],{},{\"a\":{}}"+outer, nil, len(inner)+11, api.ErrDeep)
	// The whole of a deep text may stand in a list twice, if the list is not deeper.
	one := strings.Repeat("[", n-1) + outer
	reads(t, "["+one+","+one+"]")
	holds(t, "["+one+","+"["+one+"]]", nil, 2*n-1+n, api.ErrDeep)
}

// P8.1: which of two errors comes first.
func TestFirst(t *testing.T) {
	deep := strings.Repeat("[", api.MaxDepth)
	n := len(deep)
	// ErrDeep ahead of ErrSyntax.
	holds(t, deep+"[x", nil, n, api.ErrDeep)
	holds(t, deep+"[", nil, n, api.ErrDeep)
	holds(t, deep+"1,{", nil, n+2, api.ErrDeep)
	holds(t, deep+"[[[[", nil, n, api.ErrDeep)
	holds(t, strings.Repeat("[", 100000), nil, n, api.ErrDeep)
	holds(t, strings.Repeat(`{"a":`, 100000), nil, 5*n, api.ErrDeep)
	// ErrSyntax ahead of ErrDeep.
	fails(t, "]"+deep+"[", 0)
	fails(t, deep[1:]+"x[[", n-1)
	fails(t, deep+"x[", n)
	fails(t, deep+"1 01[", n+2)
	fails(t, deep+"\"\n[", n+1)
	fails(t, deep+"\"[", n+2)
	// Both at one byte: ErrSyntax is named first.
	fails(t, deep+"1[", n+1)
	fails(t, deep+"1 {", n+2)
	fails(t, deep+"-[", n+1)
	fails(t, deep+"1.[", n+2)
	fails(t, deep+"tru{", n+3)
	fails(t, strings.Repeat(`{"a":`, n-1)+"{{", 5*(n-1)+1)
	fails(t, strings.Repeat(`{"a":`, n)+`1,[`, 5*n+2)
	fails(t, strings.Repeat(`{"a":`, n)+`""{`, 5*n+2)
	// Two errors of the syntax.
	fails(t, "[01,,x", 2)
	fails(t, "\"\\x\n", 2)
	fails(t, "[}{]", 1)
}

// P1: long texts, and no text.
func TestLong(t *testing.T) {
	holds(t, "", nil, 0, api.ErrSyntax)
	if l, at, e := Read(nil); len(l) != 0 || at != 0 || e != api.ErrSyntax {
		t.Errorf("Read(nil) = %v, %d, %d", l, at, e)
	}
	n := api.MaxText
	for _, c := range []string{" ", "\t", "\n", "\r"} {
		blanks := strings.Repeat(c, n)
		fails(t, blanks, n)
		reads(t, blanks+"1"+blanks)
		fails(t, blanks+"1"+blanks+"2", 2*n+1)
	}
	nines := strings.Repeat("9", n)
	reads(t, nines+"."+nines+"e"+nines)
	fails(t, nines+"."+nines+"e"+nines+".", 3*n+2)
	reads(t, "\""+strings.Repeat("a\\n\xff", n)+"\"")
	fails(t, "\""+strings.Repeat("a\\n\xff", n), 4*n+1)
	reads(t, "["+strings.Repeat("1, ", n)+"1]")
	fails(t, "["+strings.Repeat("1, ", n), 3*n+1)
	reads(t, "{"+strings.Repeat(`"a":{},`, n)+`"b":[]}`)
	for c := range 256 {
		s := strings.Repeat(string([]byte{byte(c)}), 2000)
		l, at, e := Read([]byte(s))
		if at > len(s) || (e == api.OK) != (c >= '1' && c <= '9') || len(l) > 1 {
			t.Errorf("of 2000 bytes %d: %v, %d, %d", c, few(l), at, e)
		}
	}
}

// P2: a text is read in the same way each time, whatever was read ahead of it, and no two answers share memory.
func TestSame(t *testing.T) {
	p := []byte(rich)
	first, _, _ := Read(p)
	Read([]byte(strings.Repeat("[", 600)))
	Read([]byte(strings.Repeat("[", 300)))
	second, at, e := Read(p)
	if at != 0 || e != api.OK || !slices.Equal(first, second) {
		t.Errorf("another answer: %v, %d, %d, not %v", second, at, e, first)
	}
	first[0] = api.Token{}
	_ = append(first[:1], api.Token{N: 9})
	clear(p)
	if !slices.Equal(second, tokens(rich)) {
		t.Errorf("an answer has changed: %v", second)
	}
	// Bytes behind the text do not count.
	long := []byte("[1]]")
	if l, at, e := Read(long[:3]); len(l) != 3 || at != 0 || e != api.OK {
		t.Errorf("of a part of a text: %v, %d, %d", l, at, e)
	}
	if _, at, e := Read(long[:2]); at != 2 || e != api.ErrSyntax {
		t.Errorf("of a part of a text: %d, %d", at, e)
	}
	if !bytes.Equal(long, []byte("[1]]")) {
		t.Errorf("the argument has changed: %q", long)
	}
}
