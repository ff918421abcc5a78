package sexp

import (
	"fmt"
	"math/rand"
	"regexp"
	"runtime/debug"
	"slices"
	"strings"
	"testing"

	"platen/api"
)

// rich has each kind of token, and blanks of each kind around each.
const rich = " \t\n\r( a \t'\n`\r, ,@ ( ) \"b ;'( \\\" \\\\\n)\" ,\r(c@d . -1.5e3 \xe9\u20ac# )\n'() ,@\"\" ) \r\n\t "

// part is what a token of a text that conforms is.
const part = "['`]|,@?|[()]|\"(?:\\\\.|[^\"\\\\])*\"|[^\\x00-\\x20\\x7f()\"'`,;@][^\\x00-\\x20\\x7f()\"'`,;]*"

var (
	parts = regexp.MustCompile("(?s)" + part)
	whole = regexp.MustCompile("(?s)^(?:[ \t\n\r]|" + part + ")*$")
	one   = regexp.MustCompile(`q*(a|\(e*\))`)
)

// kinds tells for the first byte of a token which kind it is of.
func kinds(c byte) byte {
	switch c {
	case '(':
		return api.Open
	case ')':
		return api.Close
	case '\'', '`', ',':
		return api.Quote
	}
	return api.Atom
}

// tokens is the tokens of a text that conforms.
func tokens(s string) []api.Token {
	var l []api.Token
	for _, at := range parts.FindAllStringIndex(s, -1) {
		l = append(l, api.Token{Kind: kinds(s[at[0]]), At: at[0], N: at[1] - at[0]})
	}
	return l
}

// conforms reports whether a text is one expression: each token becomes a letter, and each expression, from the inner ones on, an e.
func conforms(s string) bool {
	if !whole.MatchString(s) {
		return false
	}
	var b strings.Builder
	for _, k := range tokens(s) {
		b.WriteString(map[byte]string{api.Open: "(", api.Close: ")", api.Quote: "q", api.Atom: "a"}[k.Kind])
	}
	for was, is := "", b.String(); ; {
		if was == is {
			return is == "e"
		}
		was, is = is, one.ReplaceAllString(is, "e")
	}
}

// goesOn reports whether a text that conforms begins with s: what a token or an expression may lack, and any number of lists' ends, are tried in all ways.
func goesOn(s string) bool {
	for _, token := range []string{"", "a", `"`, `""`} {
		for n := range strings.Count(s, "(") + 1 {
			if conforms(s + token + strings.Repeat(")", n)) {
				return true
			}
		}
	}
	return false
}

// firstFault is the offset of the first of a text's bytes from some of them on with which no text that conforms begins; false, if there is none.
func firstFault(s string, from int) (int, bool) {
	for i := from; i < len(s); i++ {
		if !goesOn(s[:i+1]) {
			return i, true
		}
	}
	return 0, false
}

// holds checks what Read answers against what it must answer.
func holds(t *testing.T, s string, want []api.Token, wantAt int, wantErr api.Errno) {
	t.Helper()
	p := []byte(s)
	l, at, e := Read(p)
	if at != wantAt || e != wantErr || !slices.Equal(l, want) {
		t.Errorf("Read(%.60q, of %d bytes) = %v, %d, %d, not %v, %d, %d", s, len(s), few(l), at, e, few(want), wantAt, wantErr)
	}
	if string(p) != s {
		t.Errorf("Read(%.60q) has changed its argument", s)
	}
}

// few is the beginning of a list, which may be too long to be told.
func few(l []api.Token) string {
	return fmt.Sprint(len(l), " tokens ", l[:min(len(l), 20)])
}

// reads checks that a text conforms, and its tokens.
func reads(t *testing.T, s string) {
	t.Helper()
	holds(t, s, tokens(s), 0, api.OK)
}

// fails checks that a text has a syntax error at an offset.
func fails(t *testing.T, s string, at int) {
	t.Helper()
	holds(t, s, nil, at, api.ErrSyntax)
}

// deepens checks that a text has a list at an offset that is too deep.
func deepens(t *testing.T, s string, at int) {
	t.Helper()
	holds(t, s, nil, at, api.ErrDeep)
}

// check holds Read against the words of the chapter.
func check(t *testing.T, s string) {
	t.Helper()
	checkFrom(t, s, 0)
}

// checkFrom is check for a text of which some bytes are known to be the beginning of one that conforms; it reports whether all are.
func checkFrom(t *testing.T, s string, from int) bool {
	t.Helper()
	at, wrong := firstFault(s, from)
	switch {
	case wrong:
		fails(t, s, at)
	case conforms(s):
		reads(t, s)
	default:
		fails(t, s, len(s))
	}
	return !wrong
}

// each checks all texts that go on from one by at most n of some parts, up to the part with which an error comes.
func each(t *testing.T, some []string, start string, n int) {
	var more func(string, int, int)
	more = func(s string, from, left int) {
		if !checkFrom(t, s, from) || left == 0 || t.Failed() {
			return
		}
		for _, p := range some {
			more(s+p, len(s), left-1)
		}
	}
	more(start, 0, n)
}

// P9.1: the tokens, where they are and how long; the chapter's example.
func TestTokens(t *testing.T) {
	for s, want := range map[string][]api.Token{
		`'(a "b c")`:   {{Kind: api.Quote, At: 0, N: 1}, {Kind: api.Open, At: 1, N: 1}, {Kind: api.Atom, At: 2, N: 1}, {Kind: api.Atom, At: 4, N: 5}, {Kind: api.Close, At: 9, N: 1}},
		"()":           {{Kind: api.Open, At: 0, N: 1}, {Kind: api.Close, At: 1, N: 1}},
		"\t(\r)\n":     {{Kind: api.Open, At: 1, N: 1}, {Kind: api.Close, At: 3, N: 1}},
		" ab ":         {{Kind: api.Atom, At: 1, N: 2}},
		"a@b":          {{Kind: api.Atom, At: 0, N: 3}},
		"\u20ac\xff":   {{Kind: api.Atom, At: 0, N: 4}},
		`""`:           {{Kind: api.Atom, At: 0, N: 2}},
		`"\"\\"`:       {{Kind: api.Atom, At: 0, N: 6}},
		"\"\x00\n;(\"": {{Kind: api.Atom, At: 0, N: 6}},
		"'a":           {{Kind: api.Quote, At: 0, N: 1}, {Kind: api.Atom, At: 1, N: 1}},
		"` a":          {{Kind: api.Quote, At: 0, N: 1}, {Kind: api.Atom, At: 2, N: 1}},
		",a":           {{Kind: api.Quote, At: 0, N: 1}, {Kind: api.Atom, At: 1, N: 1}},
		",@a":          {{Kind: api.Quote, At: 0, N: 2}, {Kind: api.Atom, At: 2, N: 1}},
		",@ \"\"":      {{Kind: api.Quote, At: 0, N: 2}, {Kind: api.Atom, At: 3, N: 2}},
		",,@,'`a@":     {{Kind: api.Quote, At: 0, N: 1}, {Kind: api.Quote, At: 1, N: 2}, {Kind: api.Quote, At: 3, N: 1}, {Kind: api.Quote, At: 4, N: 1}, {Kind: api.Quote, At: 5, N: 1}, {Kind: api.Atom, At: 6, N: 2}},
		"(a,@b)":       {{Kind: api.Open, At: 0, N: 1}, {Kind: api.Atom, At: 1, N: 1}, {Kind: api.Quote, At: 2, N: 2}, {Kind: api.Atom, At: 4, N: 1}, {Kind: api.Close, At: 5, N: 1}},
		`(a"b"c'd()"e"(f)g)`: {{Kind: api.Open, At: 0, N: 1}, {Kind: api.Atom, At: 1, N: 1}, {Kind: api.Atom, At: 2, N: 3}, {Kind: api.Atom, At: 5, N: 1}, {Kind: api.Quote, At: 6, N: 1}, {Kind: api.Atom, At: 7, N: 1}, {Kind: api.Open, At: 8, N: 1}, {Kind: api.Close, At: 9, N: 1}, {Kind: api.Atom, At: 10, N: 3},
			{Kind: api.Open, At: 13, N: 1}, {Kind: api.Atom, At: 14, N: 1}, {Kind: api.Close, At: 15, N: 1}, {Kind: api.Atom, At: 16, N: 1}, {Kind: api.Close, At: 17, N: 1}},
	} {
		holds(t, s, want, 0, api.OK)
	}
	reads(t, rich)
	if n := len(tokens(rich)); n != 22 {
		t.Errorf("the rich text has %d tokens", n)
	}
}

// P9.1: one error of each kind.
func TestSyntax(t *testing.T) {
	for s, at := range map[string]int{
		// Nothing, and blanks alone.
		"": 0, " ": 1, " \t\n\r ": 5,
		// A second expression, and what ends nothing.
		"a b": 2, "a\nb": 2, "() ()": 3, "()()": 2, "()a": 2, "a()": 1, "a(": 1, `a"b"`: 1, `"a"b`: 3, `"a""b"`: 3, `"a" "b"`: 4, `"a"(`: 3, "a'": 1, "a'b": 1, "a`b": 1, "a,b": 1, "a,@b": 1, "() '": 3, "()'()": 2, "'a 'b": 3, " a b ": 3,
		// Parentheses, too many or too few.
		")": 0, " )": 1, "a)": 1, "())": 2, "(a))": 3, ") (": 0, "(": 1, "(a": 2, "(a ": 3, "((": 2, "(()": 3, "(a (b)": 6, "(a) )": 4, `")`: 2, `(")"`: 4, "(a]": 3, "[a)": 2, "(a b": 4,
		// Quotes with nothing behind them.
		"'": 1, "`": 1, ",": 1, ",@": 2, "' ": 2, ", ": 2, ",@ ": 3, "''": 2, "',": 2, "'`,,@": 5, "(')": 2, "(`)": 2, "(,)": 2, "(,@)": 3, "(' )": 3, "(a ')": 4, "(')a": 2, "')": 1, ",@)": 2, "(a '": 4,
		// An @ that is behind no comma and in no atom.
		"@": 0, "@a": 0, " @a": 1, ", @a": 2, ",@@": 2, ",@@a": 2, ",@ @a": 3, "'@a": 1, "`@a": 1, "(@a)": 1, "(a @b)": 3, "(a\n@b)": 3, "()@": 2, "(()@)": 3, `(""@a)`: 3, ",,@@a": 3, ",\n@a": 2,
		// A semicolon outside strings.
		";": 0, "a;": 1, "; a": 0, "a ;": 2, "(;)": 1, "(a;)": 2, "(a ; b\n)": 3, "';": 1, ",;": 1, ",@;": 2, `"";`: 2, `(";";)`: 4, "();": 2,
		// What is in no atom, and no blank.
		"\x00": 0, "\x01": 0, "a\x00": 1, "\v": 0, "\f": 0, "a\v": 1, "a\f b": 1, "\va": 0, "\x1f": 0, "a\x1f": 1, "\x7f": 0, "a\x7f": 1, "(\x00)": 1, "(a\x08)": 2, "(a \x7f)": 3, "'\x00a": 1, ",\x7f": 1, ",@\x00": 2, "\"\"\x00": 2, "()\x7f": 2, " \x0e": 1,
		// Strings without an end.
		`"`: 1, `"a`: 2, `"\`: 2, `"\"`: 3, `"\\\"`: 5, `"a\"b`: 5, "\"a\n": 3, `("a)`: 4, `"a" "`: 4, `'"`: 2, `("a""b)`: 7, `"\\"a"`: 4, `"\\""`: 4, `"a\\" b`: 6,
	} {
		fails(t, s, at)
		// The table is held against the words of the chapter too.
		check(t, s)
	}
}

// P9.1: texts that conform, and blanks around each of their tokens.
func TestConforms(t *testing.T) {
	for _, s := range []string{
		"a", "abc", "a@", "a@b", "a@@", "0", "-1.5e+3", ".", "...", "#t", "#\\a", "a:b", "a=b", "\\", "a\\b", "[", "{}", "a]", "|a|", "!", "~", "\x80", "\xff\xfe", "\u20ac", "\u00a0", "\u2028a", "\ufeff", "\xed\xa0\x80", "nil", "/*", "//", "a|b",
		`""`, `"a"`, `" "`, `"a b"`, `"\""`, `"\\"`, `"\\\""`, `"\a\b\(\)\;"`, `"("`, `")"`, `"()"`, `"'"`, "\"`,@,\"", `"@a"`, `";"`, `"a ; b"`, "\"\n\"", "\"\\\n\"", "\"a\r\n\tb\"", "\"\x00\x1f\x7f\x80\xff\"", "\"\\\x00\\\x7f\\\xff\\\u20ac\"",
		"()", "( )", "(a)", "(a b)", "(())", "(()())", "(() ())", "((a)(b))", "(a(b(c)d)e)", "(a . b)", `("a""b")`, `("a"b"c")`, `(a"b")`, `("()")`, "(a@b@c)",
		"'a", "`a", ",a", ",@a", "''a", "``a", ",,a", ",@,@a", ",,@a", ",@,a", "'`,@,a", ",'a", "'()", "`()", ",()", ",@()", `'""`, "`\"\"", `,""`, `,@""`, `,@"@"`, "'('a)", "(a'b)", "(a`b,c,@d)", "('a '(b) ',@\"c\")", "`(a ,b ,@c ,@(d 'e))", ",@a@", "(,a@b)", "(,@a)", "(quote a)",
	} {
		check(t, s)
		reads(t, s)
		for _, blanks := range []string{" ", "\t", "\n", "\r", "  \r\n\t "} {
			reads(t, blanks+s)
			reads(t, s+blanks)
			reads(t, blanks+s+blanks)
			var around strings.Builder
			for _, k := range tokens(s) {
				around.WriteString(blanks + s[k.At:k.At+k.N] + blanks)
			}
			reads(t, around.String())
			if len(tokens(around.String())) != len(tokens(s)) {
				t.Errorf("%q has other tokens than %q", around.String(), s)
			}
		}
	}
}

// P9.1: all texts of a few parts.
func TestShort(t *testing.T) {
	each(t, []string{"(", ")", "'", ",", "@", `"`, "a", " "}, "", 5)
	each(t, []string{"'", "`", ",", "@", "a", " "}, "", 6)
	each(t, []string{"'", ",", "@", "a", ")", ";"}, "(", 5)
	each(t, []string{`"`, `\`, ";", "(", ")", "a", "@", "\n", "\x00", "\x7f", "\x80"}, `"`, 4)
	each(t, []string{`"`, `\`, "a", ")"}, `("`, 6)
	each(t, []string{"(", ")", "a", " "}, "", 8)
}

// P9.1: each byte as an atom's first, as a later one and as its last; in a string, and behind a backslash there.
func TestAtoms(t *testing.T) {
	for c := range 256 {
		b := string([]byte{byte(c)})
		begins := first(byte(c))
		later := begins || c == '@'
		for s, ok := range map[string]bool{b: begins, b + "a": begins, "a" + b: later, "a" + b + "a": later} {
			l, at, e := Read([]byte(s))
			if ok && (len(l) != 1 || l[0] != (api.Token{Kind: api.Atom, At: 0, N: len(s)}) || at != 0 || e != api.OK) {
				t.Errorf("%q: %v, %d, %d", s, l, at, e)
			}
			if !ok && len(l) == 1 && l[0].N == len(s) {
				t.Errorf("%q is an atom: %v", s, l)
			}
			check(t, s)
		}
		for _, s := range []string{`"\` + b + `"`, `"a\` + b + `b"`} {
			holds(t, s, []api.Token{{Kind: api.Atom, At: 0, N: len(s)}}, 0, api.OK)
			fails(t, s[:len(s)-1], len(s)-1)
		}
		if c != '"' && c != '\\' {
			holds(t, `"`+b+`"`, []api.Token{{Kind: api.Atom, At: 0, N: 3}}, 0, api.OK)
		}
	}
}

// P9.1: each byte, instead of each byte of a text and ahead of it.
func TestBytes(t *testing.T) {
	for _, s := range []string{"('a \"b\\\"c\"\t,@(d@) `, e)\n", "a ", `""`, ",@a", "()"} {
		for at := range len(s) + 1 {
			for c := range 256 {
				ahead := s[:at] + string([]byte{byte(c)})
				checkFrom(t, ahead+s[at:], at)
				checkFrom(t, ahead+s[min(at+1, len(s)):], at)
			}
		}
	}
}

// P9.1: texts cut at each byte, which end too early.
func TestCut(t *testing.T) {
	for _, s := range []string{strings.TrimRight(rich, " \t\r\n"), "(a b)", "'(a \"b c\")", `",@(\"\\\n"`, "(((())))", "'`,,@()", " \n(,@\"\")"} {
		for n := range len(s) {
			fails(t, s[:n], n)
		}
		reads(t, s)
	}
	// The beginnings of an atom, but for its quotes, are whole.
	for n := range len("',@ab@c") + 1 {
		if n <= 3 {
			fails(t, "',@ab@c"[:n], n)
		} else {
			reads(t, "',@ab@c"[:n])
		}
	}
}

// P9.1: tokens that are removed from a text, doubled in it, or others instead.
func TestTokenwise(t *testing.T) {
	l := tokens(rich)
	for _, k := range l {
		ahead, token, behind := rich[:k.At], rich[k.At:k.At+k.N], rich[k.At+k.N:]
		check(t, ahead+behind)
		check(t, ahead+token+token+behind)
		check(t, ahead+token+" "+token+behind)
		check(t, ahead+token+";"+behind)
		for _, other := range l {
			check(t, ahead+rich[other.At:other.At+other.N]+behind)
		}
	}
}

// P9.1: texts that are changed at random.
func TestRandom(t *testing.T) {
	r := rand.New(rand.NewSource(9))
	some := "()()'`,@\"\\;ab \n\x00\x7f\xff"
	for range 1000 {
		p := []byte(rich)
		for range 1 + r.Intn(3) {
			at := r.Intn(len(p))
			switch c := some[r.Intn(len(some))]; r.Intn(3) {
			case 0:
				p[at] = c
			case 1:
				p = slices.Insert(p, at, c)
			default:
				p = slices.Delete(p, at, min(at+1+r.Intn(3), len(p)))
			}
		}
		check(t, string(p))
	}
}

// P9.1: lists within MaxDepth others.
func TestDeep(t *testing.T) {
	n := api.MaxDepth
	for _, c := range []struct{ open, close string }{{"(", ")"}, {"(a ", " b)"}, {"'(", ")"}, {"`,@,(", ")"}, {" ( a \")\" ' ", " \"(\" b )\n"}, {`("\"("`, `"(")`}} {
		open, close := strings.Repeat(c.open, n), strings.Repeat(c.close, n)
		reads(t, open+"a"+close)
		fails(t, open, len(open))
		fails(t, open+"a"+close+")", len(open+close)+1)
		fails(t, open+"a"+close[:strings.LastIndex(close, ")")], len(open)+1+strings.LastIndex(close, ")"))
		// Within the deepest one there may be none, not even an empty one; the error is there whatever follows.
		for _, inner := range []string{"()", "(", "(;", "((", "(@", "()a;"} {
			deepens(t, open+inner, len(open))
			deepens(t, open+inner+close, len(open))
			deepens(t, open+"\n a"+inner+close, len(open)+3)
			// Quotes do not hide it.
			deepens(t, open+"' ,@"+inner+close, len(open)+4)
		}
		// Parentheses in strings, and quotes, are no lists.
		reads(t, open+`"((()"'''`+"`,@a"+close)
	}
	// Lists side by side are not within one another.
	inner, outer := strings.Repeat("(", n-1), strings.Repeat(")", n-1)
	reads(t, inner+"()'()(a) ()"+outer)
	reads(t, "("+strings.Repeat("()'()", 3*n)+"a)")
	deepens(t, inner+"()()(())"+outer, len(inner)+5)
	reads(t, "("+inner+outer+inner+outer+")")
	deepens(t, "("+inner+outer+"("+inner+outer+"))", 3*n-2)
	// However many quotes there are, they are not in one another.
	quotes := strings.Repeat("'`,,@", n)
	reads(t, quotes+inner+quotes+"("+quotes+"a)"+outer)
}

// P9.1: which of two errors comes first.
func TestFirst(t *testing.T) {
	n := api.MaxDepth
	deep := strings.Repeat("(", n)
	// ErrDeep ahead of ErrSyntax.
	deepens(t, deep+"(;", n)
	deepens(t, deep+"(", n)
	deepens(t, deep+"((((", n)
	deepens(t, deep+"a((", n+1)
	deepens(t, deep+"a(;", n+1)
	deepens(t, deep+`""(`, n+2)
	deepens(t, deep+`,@(`, n+2)
	deepens(t, deep+"a'(@", n+2)
	deepens(t, deep+")(((\"", n+2)
	deepens(t, strings.Repeat("(", 100000), n)
	deepens(t, strings.Repeat("'(", 100000), 2*n+1)
	// ErrSyntax ahead of ErrDeep.
	fails(t, ")"+deep+"(", 0)
	fails(t, "a"+deep+"(", 1)
	fails(t, "a "+deep+"(", 2)
	fails(t, "@"+deep+"(", 0)
	fails(t, deep+";(", n)
	fails(t, deep+"@(", n)
	fails(t, deep+", @(", n+2)
	fails(t, deep+"\x7f(", n)
	fails(t, deep+"')(", n+1)
	fails(t, deep+"\"(", n+2)
	fails(t, deep+"'", n+1)
	fails(t, deep[1:]+"()"+deep[:1]+";((", n+2)
	// A second expression is none whatever its depth.
	fails(t, deep+strings.Repeat(")", n)+deep+"(", 2*n)
	// Two errors of the syntax.
	fails(t, "(;@)) b", 1)
	fails(t, "a b c", 2)
	fails(t, "(')@;", 2)
	fails(t, ")\"", 0)
}

// P1: long texts, and no text.
func TestLong(t *testing.T) {
	fails(t, "", 0)
	if l, at, e := Read(nil); len(l) != 0 || at != 0 || e != api.ErrSyntax {
		t.Errorf("Read(nil) = %v, %d, %d", l, at, e)
	}
	n := api.MaxText
	for _, c := range []string{" ", "\t", "\n", "\r"} {
		blanks := strings.Repeat(c, n)
		fails(t, blanks, n)
		reads(t, blanks+"a"+blanks)
		fails(t, blanks+"a"+blanks+"b", 2*n+1)
	}
	reads(t, strings.Repeat("a@", n))
	fails(t, strings.Repeat("a@", n)+";", 2*n)
	reads(t, `"`+strings.Repeat("a\\\"\xff\n", n)+`"`)
	fails(t, `"`+strings.Repeat("a\\\"\xff\n", n), 5*n+1)
	reads(t, "("+strings.Repeat("a ", n)+")")
	fails(t, "("+strings.Repeat("a ", n), 2*n+1)
	reads(t, "("+strings.Repeat("()", n)+")")
	for c := range 256 {
		s := strings.Repeat(string([]byte{byte(c)}), 2000)
		l, at, e := Read([]byte(s))
		if atom := first(byte(c)); at > len(s) || (e == api.OK) != atom || (len(l) == 1) != atom {
			t.Errorf("of 2000 bytes %d: %v, %d, %d", c, few(l), at, e)
		}
	}
}

// P1: quotes without a limit are no calls in one another, which would need a stack without a limit.
func TestQuotes(t *testing.T) {
	defer debug.SetMaxStack(debug.SetMaxStack(1 << 20))
	quotes := strings.Repeat("'`,,@", api.MaxText/2)
	for _, s := range []string{quotes, "(" + quotes, strings.Repeat("' ", api.MaxText)} {
		fails(t, s, len(s))
		fails(t, s+"@", len(s))
		fails(t, s+")", len(s))
	}
	for _, s := range []string{"a", "\"\"", "()", "(a)"} {
		reads(t, quotes+s)
		reads(t, "("+quotes+s+quotes+s+")")
	}
}

// first reports whether an atom begins with a byte.
func first(c byte) bool {
	return c > ' ' && c != 0x7f && strings.IndexByte("()\"'`,;@", c) < 0
}

// P2: a text is read in the same way each time, whatever was read ahead of it, and no two answers share memory.
func TestSame(t *testing.T) {
	p := []byte(rich)
	one, _, _ := Read(p)
	Read([]byte(strings.Repeat("(", 600)))
	Read([]byte(strings.Repeat("(", 300)))
	other, at, e := Read(p)
	if at != 0 || e != api.OK || !slices.Equal(one, other) {
		t.Errorf("another answer: %v, %d, %d, not %v", other, at, e, one)
	}
	one[0] = api.Token{}
	_ = append(one[:1], api.Token{N: 9})
	clear(p)
	if !slices.Equal(other, tokens(rich)) {
		t.Errorf("an answer has changed: %v", other)
	}
	// Bytes behind the text do not count.
	long := []byte("(,@a))")
	if l, at, e := Read(long[:5]); len(l) != 4 || at != 0 || e != api.OK {
		t.Errorf("of a part of a text: %v, %d, %d", l, at, e)
	}
	for n := range 5 {
		if l, at, e := Read(long[:n]); len(l) != 0 || at != n || e != api.ErrSyntax {
			t.Errorf("of %d bytes of a text: %v, %d, %d", n, l, at, e)
		}
	}
	if string(long) != "(,@a))" {
		t.Errorf("the argument has changed: %q", long)
	}
}
