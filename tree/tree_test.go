package tree

import (
	"fmt"
	"math/rand"
	"regexp"
	"slices"
	"strings"
	"testing"

	"platen/api"
	"platen/json"
	"platen/layout"
	"platen/sexp"
)

// far is how far widths may be from 0.
const far = 1 << 31

// Texts with each kind of token, of value or expression, and blanks of each kind around each.
const (
	richJSON = " \t\n\r{ \"a\" \t: [ 1\n,-2.5e+3 , [ \r] ,{ \t\n},[[true ] ], \"\\\"[\\u00e9 ,\xe9\u20ac]\" ]\r,\"\":{\"b c\":{\"\\\\\":null},\"d\":[ { \"e\" :false }, [] ]} }\n "
	richSexp = " \t\n\r( a \t'\n`\r, ,@ ( ) \"b ;'( \\\" \\\\\n)\" ,\r(c@d . -1.5e3 \xe9\u20ac# )\n'(()) ,@\"\" ((e f) ( g ( h ) ) '(i 'j)) ) \r\n\t "
)

var (
	jsonParts = regexp.MustCompile(`(?s)"(?:\\.|[^"\\])*"|[][{},:]|[^][{},:" \t\n\r]+`)
	sexpParts = regexp.MustCompile("(?s)['`]|,@?|[()]|\"(?:\\\\.|[^\"\\\\])*\"|[^\\x00-\\x20\\x7f()\"'`,;@][^\\x00-\\x20\\x7f()\"'`,;]*")

	// What stands in a list or an object that is not empty, beside what it holds.
	begin = api.Item{Kind: api.Begin, Off: 2, Whole: true}
	first = api.Item{Kind: api.Break}
	final = api.Item{Kind: api.Break, Off: -2}
	col   = api.Item{Kind: api.Begin, Col: true}
	gap   = api.Item{Kind: api.Break, N: 1}
	end   = api.Item{Kind: api.End}
)

func text(s string) api.Item { return api.Item{Kind: api.Text, Text: s} }

// list puts texts, items and lists of items into one list.
func list(parts ...any) []api.Item {
	var l []api.Item
	for _, p := range parts {
		switch x := p.(type) {
		case string:
			l = append(l, text(x))
		case api.Item:
			l = append(l, x)
		case []api.Item:
			l = append(l, x...)
		}
	}
	return l
}

// words is the texts of the tokens of a text that conforms.
func words(s string, lisp bool) []string {
	if lisp {
		return sexpParts.FindAllString(s, -1)
	}
	return jsonParts.FindAllString(s, -1)
}

// model builds items by the words of the chapter, one value or expression at a time, of a text that conforms.
type model struct {
	words []string
	lisp  bool
	items []api.Item
}

func modelOf(s string, lisp bool) []api.Item {
	m := model{words: words(s, lisp), lisp: lisp}
	m.value()
	if len(m.words) > 0 {
		panic("more than one value: " + s)
	}
	return m.items
}

func (m *model) add(l ...api.Item) { m.items = append(m.items, l...) }

// pass adds the next token as a Text.
func (m *model) pass() {
	m.add(text(m.words[0]))
	m.words = m.words[1:]
}

func (m *model) value() {
	for m.lisp && strings.Contains("',@`", m.words[0]) {
		m.pass()
	}
	open := m.words[0]
	m.pass()
	switch {
	case !m.lisp && (open == "[" || open == "{"):
		m.whole(open, map[string]string{"[": "]", "{": "}"}[open])
	case m.lisp && open == "(":
		m.list()
	}
}

// whole adds what follows the Open of an array or an object.
func (m *model) whole(open, closes string) {
	if m.words[0] == closes {
		m.pass()
		return
	}
	m.add(begin, first)
	for {
		if open == "{" {
			m.pass()
			m.words = m.words[1:]
			m.add(text(": "))
		}
		m.value()
		if m.words[0] == closes {
			break
		}
		m.pass()
		m.add(gap)
	}
	m.add(final)
	m.pass()
	m.add(end)
}

// list adds what follows the Open of a list.
func (m *model) list() {
	if m.words[0] == ")" {
		m.pass()
		return
	}
	m.add(col)
	m.value()
	for m.words[0] != ")" {
		m.add(gap)
		m.value()
	}
	m.pass()
	m.add(end)
}

// few is the beginning of a list, which may be too long to be told.
func few(l []api.Item) string {
	s := fmt.Sprint(l[:min(len(l), 40)])
	return fmt.Sprint(len(l), " items ", s[:min(len(s), 800)])
}

// items checks what Items answers for a text that conforms.
func items(t *testing.T, s string, lisp bool, want []api.Item) {
	t.Helper()
	p := []byte(s)
	l, at, e := Items(p, lisp)
	if at != 0 || e != api.OK || !slices.Equal(l, want) {
		t.Errorf("Items(%.60q, %v) = %s, %d, %d, not %s", s, lisp, few(l), at, e, few(want))
	}
	if string(p) != s {
		t.Errorf("Items(%.60q) has changed its argument", s)
	}
}

// formats checks what Format answers.
func formats(t *testing.T, s string, lisp bool, width int, want string, wantErr api.Errno) {
	t.Helper()
	p := []byte(s)
	got, at, e := Format(p, lisp, width)
	if got != want || at != 0 || e != wantErr {
		t.Errorf("Format(%.60q, %v, %d) = %.200q (%d bytes), %d, %d, not %.200q (%d bytes), %d", s, lisp, width, got, len(got), at, e, want, len(want), wantErr)
	}
	if string(p) != s {
		t.Errorf("Format(%.60q) has changed its argument", s)
	}
}

// steady checks that a result has the tokens of a text, and is left as it is by the same width.
func steady(t *testing.T, s string, lisp bool, width int, result string) {
	t.Helper()
	l, at, e := Read([]byte(result), lisp)
	if at != 0 || e != api.OK {
		t.Errorf("Read(%.200q, %v), the format of %.60q in %d, fails: %d, %d", result, lisp, s, width, at, e)
	}
	var got []string
	for _, k := range l {
		got = append(got, result[k.At:k.At+k.N])
	}
	if want := words(s, lisp); !slices.Equal(got, want) {
		t.Errorf("the format of %.60q (%v) in %d has the tokens %.200q, not %.200q", s, lisp, width, got, want)
	}
	formats(t, result, lisp, width, result, api.OK)
}

// holds checks all that is promised for a text that conforms, in a width.
func holds(t *testing.T, s string, lisp bool, width int) {
	t.Helper()
	want, e := layout.Lay(modelOf(s, lisp), width)
	formats(t, s, lisp, width, want, e)
	if e == api.OK {
		steady(t, s, lisp, width, want)
	}
}

// check holds a text that conforms against the words of the chapter, in all widths in which it could be laid out otherwise.
func check(t *testing.T, s string, lisp bool) {
	t.Helper()
	items(t, s, lisp, modelOf(s, lisp))
	for _, width := range []int{-far, -far + 1, -100, -1, 1000, far - 1, far} {
		holds(t, s, lisp, width)
	}
	flat, _, _ := Format([]byte(s), lisp, far)
	for width := range len(flat) + 3 {
		holds(t, s, lisp, width)
	}
}

// fails checks that all three functions answer an error at an offset, and nothing beside it.
func fails(t *testing.T, s string, lisp bool, at int, errno api.Errno) {
	t.Helper()
	p := []byte(s)
	if l, n, e := Read(p, lisp); len(l) != 0 || n != at || e != errno {
		t.Errorf("Read(%.60q, %v) = %d tokens, %d, %d, not %d, %d", s, lisp, len(l), n, e, at, errno)
	}
	if l, n, e := Items(p, lisp); len(l) != 0 || n != at || e != errno {
		t.Errorf("Items(%.60q, %v) = %s, %d, %d, not %d, %d", s, lisp, few(l), n, e, at, errno)
	}
	for _, width := range []int{-far, -1, 0, 1, 80, far} {
		if f, n, e := Format(p, lisp, width); f != "" || n != at || e != errno {
			t.Errorf("Format(%.60q, %v, %d) = %.60q, %d, %d, not %d, %d", s, lisp, width, f, n, e, at, errno)
		}
	}
	if string(p) != s {
		t.Errorf("%.60q has changed", s)
	}
}

// either checks a text of which it isn't known whether it conforms: layers 8 and 9 tell.
func either(t *testing.T, s string, lisp bool) {
	t.Helper()
	want, at, e := json.Read([]byte(s))
	if lisp {
		want, at, e = sexp.Read([]byte(s))
	}
	if e != api.OK {
		fails(t, s, lisp, at, e)
		return
	}
	if l, n, e := Read([]byte(s), lisp); n != 0 || e != api.OK || !slices.Equal(l, want) {
		t.Errorf("Read(%.60q, %v) = %v, %d, %d, not %v", s, lisp, l, n, e, want)
	}
	items(t, s, lisp, modelOf(s, lisp))
	for _, width := range []int{0, 10, 80} {
		holds(t, s, lisp, width)
	}
}

// P11.1: the tokens, as JSON and as an S-expression.
func TestRead(t *testing.T) {
	for _, c := range []struct {
		s    string
		lisp bool
		want []api.Token
	}{
		{"[1]", false, []api.Token{{Kind: api.Open, At: 0, N: 1}, {Kind: api.Atom, At: 1, N: 1}, {Kind: api.Close, At: 2, N: 1}}},
		{"[1]", true, []api.Token{{Kind: api.Atom, At: 0, N: 3}}},
		{" 12 ", false, []api.Token{{Kind: api.Atom, At: 1, N: 2}}},
		{" 12 ", true, []api.Token{{Kind: api.Atom, At: 1, N: 2}}},
		{`{"a": [], "b":1}`, false, []api.Token{{Kind: api.Open, At: 0, N: 1}, {Kind: api.Atom, At: 1, N: 3}, {Kind: api.Colon, At: 4, N: 1}, {Kind: api.Open, At: 6, N: 1}, {Kind: api.Close, At: 7, N: 1}, {Kind: api.Comma, At: 8, N: 1}, {Kind: api.Atom, At: 10, N: 3}, {Kind: api.Colon, At: 13, N: 1}, {Kind: api.Atom, At: 14, N: 1}, {Kind: api.Close, At: 15, N: 1}}},
		{`'(a ,@"b")`, true, []api.Token{{Kind: api.Quote, At: 0, N: 1}, {Kind: api.Open, At: 1, N: 1}, {Kind: api.Atom, At: 2, N: 1}, {Kind: api.Quote, At: 4, N: 2}, {Kind: api.Atom, At: 6, N: 3}, {Kind: api.Close, At: 9, N: 1}}},
		{`"a"`, false, []api.Token{{Kind: api.Atom, At: 0, N: 3}}},
		{`"a"`, true, []api.Token{{Kind: api.Atom, At: 0, N: 3}}},
	} {
		if l, at, e := Read([]byte(c.s), c.lisp); at != 0 || e != api.OK || !slices.Equal(l, c.want) {
			t.Errorf("Read(%q, %v) = %v, %d, %d, not %v", c.s, c.lisp, l, at, e, c.want)
		}
	}
	// What one of the two can't read, the other may.
	for s, at := range map[string]int{"(a)": 0, "a": 0, "'1": 0, "01": 1, "[1,]": 3, "\"\n\"": 1, "\"\\q\"": 2, "[a]": 1, "{1}": 1} {
		fails(t, s, false, at, api.ErrSyntax)
	}
	for _, s := range []string{"(a)", "a", "'1", "01", "[a]", "{1}"} {
		check(t, s, true)
	}
	for s, at := range map[string]int{"[1, 2]": 2, "[1,2]": 2, "[ 1]": 2, `{"a":1}`: 1, `["a"]`: 1, "[1,[2]]": 2} {
		fails(t, s, true, at, api.ErrSyntax)
		check(t, s, false)
	}
}

// P11.1: the items of JSON.
func TestItemsOfJSON(t *testing.T) {
	for s, want := range map[string][]api.Item{
		// A single atom.
		"1": list("1"), " true\n": list("true"), `"a b"`: list(`"a b"`), "\"\xff,[\\\"\"": list("\"\xff,[\\\"\""), "\t-1.50E+07\r": list("-1.50E+07"), `""`: list(`""`),
		// Empty arrays and objects.
		"[]": list("[", "]"), "{}": list("{", "}"), "[ ]": list("[", "]"), "{\n}": list("{", "}"), " [\r\n\t ] ": list("[", "]"), "{ \n }": list("{", "}"),
		// Arrays.
		"[1]":             list("[", begin, first, "1", final, "]", end),
		"[1,2]":           list("[", begin, first, "1", ",", gap, "2", final, "]", end),
		"[ 1 ,\n2\t, 3 ]": list("[", begin, first, "1", ",", gap, "2", ",", gap, "3", final, "]", end),
		`["]",","]`:       list("[", begin, first, `"]"`, ",", gap, `","`, final, "]", end),
		"[[]]":            list("[", begin, first, "[", "]", final, "]", end),
		"[[],2]":          list("[", begin, first, "[", "]", ",", gap, "2", final, "]", end),
		"[1,[ ],{ }]":     list("[", begin, first, "1", ",", gap, "[", "]", ",", gap, "{", "}", final, "]", end),
		"[[1]]":           list("[", begin, first, "[", begin, first, "1", final, "]", end, final, "]", end),
		"[[1],[2,3]]":     list("[", begin, first, "[", begin, first, "1", final, "]", end, ",", gap, "[", begin, first, "2", ",", gap, "3", final, "]", end, final, "]", end),
		// Objects.
		`{"a":1}`:           list("{", begin, first, `"a"`, ": ", "1", final, "}", end),
		`{ "a" : 1 }`:       list("{", begin, first, `"a"`, ": ", "1", final, "}", end),
		"{\"a\"\n:\n1\n}":   list("{", begin, first, `"a"`, ": ", "1", final, "}", end),
		`{":":"{","":","}`:  list("{", begin, first, `":"`, ": ", `"{"`, ",", gap, `""`, ": ", `","`, final, "}", end),
		`{"a":{},"a":[]}`:   list("{", begin, first, `"a"`, ": ", "{", "}", ",", gap, `"a"`, ": ", "[", "]", final, "}", end),
		`{"a":{"b":null}}`:  list("{", begin, first, `"a"`, ": ", "{", begin, first, `"b"`, ": ", "null", final, "}", end, final, "}", end),
		`{"a":[1],"b":"c"}`: list("{", begin, first, `"a"`, ": ", "[", begin, first, "1", final, "]", end, ",", gap, `"b"`, ": ", `"c"`, final, "}", end),
		`[{"a":1},{}]`:      list("[", begin, first, "{", begin, first, `"a"`, ": ", "1", final, "}", end, ",", gap, "{", "}", final, "]", end),
	} {
		items(t, s, false, want)
		// The table is held against the words of the chapter too.
		check(t, s, false)
	}
	check(t, richJSON, false)
}

// P11.1: the items of S-expressions.
func TestItemsOfSexp(t *testing.T) {
	for s, want := range map[string][]api.Item{
		// A single atom, with quotes and without.
		"a": list("a"), " a\n": list("a"), `"a b"`: list(`"a b"`), "\"\n)\\\"\"": list("\"\n)\\\"\""), "[1]": list("[1]"), "a@b": list("a@b"), "\xff\u20ac": list("\xff\u20ac"),
		"'a": list("'", "a"), "' a": list("'", "a"), "`a": list("`", "a"), ",a": list(",", "a"), ",@a": list(",@", "a"), ",@ a": list(",@", "a"), ", a@": list(",", "a@"), "\n'\n\"a\"\n": list("'", `"a"`),
		"''a": list("'", "'", "a"), "'`,,@a": list("'", "`", ",", ",@", "a"), ",@,a": list(",@", ",", "a"), ",,@ ,@,\"\"": list(",", ",@", ",@", ",", `""`), "' ' a": list("'", "'", "a"),
		// Empty lists.
		"()": list("(", ")"), "( )": list("(", ")"), "(\n)": list("(", ")"), " (\r\n\t ) ": list("(", ")"), "'()": list("'", "(", ")"), "' ( )": list("'", "(", ")"), ",@\n(\n)": list(",@", "(", ")"), ",'`()": list(",", "'", "`", "(", ")"),
		// Lists.
		"(a)":            list("(", col, "a", ")", end),
		"( a )":          list("(", col, "a", ")", end),
		"(a b)":          list("(", col, "a", gap, "b", ")", end),
		"(a\nb\t c)":     list("(", col, "a", gap, "b", gap, "c", ")", end),
		`(a"b"c)`:        list("(", col, "a", gap, `"b"`, gap, "c", ")", end),
		`(")" "(")`:      list("(", col, `")"`, gap, `"("`, ")", end),
		"(())":           list("(", col, "(", ")", ")", end),
		"(()())":         list("(", col, "(", ")", gap, "(", ")", ")", end),
		"((a))":          list("(", col, "(", col, "a", ")", end, ")", end),
		"(a(b c)d)":      list("(", col, "a", gap, "(", col, "b", gap, "c", ")", end, gap, "d", ")", end),
		"((a)(b))":       list("(", col, "(", col, "a", ")", end, gap, "(", col, "b", ")", end, ")", end),
		"((a)() b)":      list("(", col, "(", col, "a", ")", end, gap, "(", ")", gap, "b", ")", end),
		"'(a)":           list("'", "(", col, "a", ")", end),
		"`',(a b)":       list("`", "'", ",", "(", col, "a", gap, "b", ")", end),
		"('a)":           list("(", col, "'", "a", ")", end),
		"( ' a)":         list("(", col, "'", "a", ")", end),
		"(a'b)":          list("(", col, "a", gap, "'", "b", ")", end),
		"(a ',@b c)":     list("(", col, "a", gap, "'", ",@", "b", gap, "c", ")", end),
		"(a , b)":        list("(", col, "a", gap, ",", "b", ")", end),
		"(,@a,b)":        list("(", col, ",@", "a", gap, ",", "b", ")", end),
		"('()'\"\")":     list("(", col, "'", "(", ")", gap, "'", `""`, ")", end),
		"('(a)'(b 'c))":  list("(", col, "'", "(", col, "a", ")", end, gap, "'", "(", col, "b", gap, "'", "c", ")", end, ")", end),
		"(() `,@( ) ())": list("(", col, "(", ")", gap, "`", ",@", "(", ")", gap, "(", ")", ")", end),
	} {
		items(t, s, true, want)
		// The table is held against the words of the chapter too.
		check(t, s, true)
	}
	check(t, richSexp, true)
}

// laid is a text's result in all widths of a range; far stands for no bound.
type laid struct {
	s        string
	from, to int
	want     string
}

func (c laid) holds(t *testing.T, lisp bool) {
	t.Helper()
	for _, width := range []int{c.from, c.from + 1, (c.from + c.to) / 2, c.to - 1, c.to} {
		if width < c.from || width > c.to {
			continue
		}
		formats(t, c.s, lisp, width, c.want, api.OK)
		steady(t, c.s, lisp, width, c.want)
	}
}

// P11.1, P11.2: JSON in widths in which it just fits, or is a column too wide; the chapter's example.
func TestFormatOfJSON(t *testing.T) {
	for _, c := range []laid{
		{"[1,2]", 80, 80, "[1, 2]"},
		// What has no place for a line end is the same in each width.
		{" 7\n", -far, far, "7"},
		{`"a  b"`, -far, far, `"a  b"`},
		{" [ \n ] ", -far, far, "[]"},
		{"{\n}", -far, far, "{}"},
		{"[ 1 , 2 ]", 6, far, "[1, 2]"},
		{"[1,2]", -far, 5, "[\n  1,\n  2\n]"},
		{"[[]]", 4, far, "[[]]"},
		{"[[]]", -far, 3, "[\n  []\n]"},
		{`{"a" :1}`, 8, far, `{"a": 1}`},
		{`{"a" :1}`, -far, 7, "{\n  \"a\": 1\n}"},
		// A character of several bytes is one column.
		{"{\"\u20ac\" :1}", 8, far, "{\"\u20ac\": 1}"},
		{"{\"\u20ac\" :1}", -far, 7, "{\n  \"\u20ac\": 1\n}"},
		{"[1,[2,3]]", 11, far, "[1, [2, 3]]"},
		{"[1,[2,3]]", 8, 10, "[\n  1,\n  [2, 3]\n]"},
		{"[1,[2,3]]", -far, 7, "[\n  1,\n  [\n    2,\n    3\n  ]\n]"},
		// A comma has to fit behind an inner array.
		{"[[2,3],1]", 9, 10, "[\n  [2, 3],\n  1\n]"},
		{"[[2,3],1]", -far, 8, "[\n  [\n    2,\n    3\n  ],\n  1\n]"},
		{`{"a":[],"b":{}}`, 18, far, `{"a": [], "b": {}}`},
		{`{"a":[],"b":{}}`, -far, 17, "{\n  \"a\": [],\n  \"b\": {}\n}"},
		{`{"a":[1,2],"b":{"c":3}}`, 28, far, `{"a": [1, 2], "b": {"c": 3}}`},
		{`{"a":[1,2],"b":{"c":3}}`, 15, 27, "{\n  \"a\": [1, 2],\n  \"b\": {\"c\": 3}\n}"},
		{`{"a":[1,2],"b":{"c":3}}`, 14, 14, "{\n  \"a\": [1, 2],\n  \"b\": {\n    \"c\": 3\n  }\n}"},
		{`{"a":[1,2],"b":{"c":3}}`, -far, 13, "{\n  \"a\": [\n    1,\n    2\n  ],\n  \"b\": {\n    \"c\": 3\n  }\n}"},
		{`[{"a":1},2]`, 11, 12, "[\n  {\"a\": 1},\n  2\n]"},
		{`[{"a":1},2]`, -far, 10, "[\n  {\n    \"a\": 1\n  },\n  2\n]"},
	} {
		c.holds(t, false)
	}
}

// P11.1, P11.2: S-expressions in widths in which they just fit, or are a column too wide.
func TestFormatOfSexp(t *testing.T) {
	for _, c := range []laid{
		// What has no place for a line end is the same in each width.
		{" a\n", -far, far, "a"},
		{"\"a \n b\"", -far, far, "\"a \n b\""},
		{"' ( )", -far, far, "'()"},
		{", ,@ ' `\na", -far, far, ",,@'`a"},
		{"( ( a ) )", -far, far, "((a))"},
		{"( a\nb )", 5, far, "(a b)"},
		{"(a b)", -far, 4, "(a\n b)"},
		{"( a  'b)", 6, far, "(a 'b)"},
		{"( a  'b)", -far, 5, "(a\n 'b)"},
		// As many as fit are on a line.
		{"(a b c d)", 9, far, "(a b c d)"},
		{"(a b c d)", 6, 8, "(a b c\n d)"},
		{"(a b c d)", 5, 5, "(a b\n c d)"},
		{"(a b c d)", 4, 4, "(a b\n c\n d)"},
		{"(a b c d)", -far, 3, "(a\n b\n c\n d)"},
		{"(a (b c) ,@d)", 13, far, "(a (b c) ,@d)"},
		{"(a (b c) ,@d)", 8, 12, "(a (b c)\n ,@d)"},
		{"(a (b c) ,@d)", 6, 7, "(a\n (b c)\n ,@d)"},
		{"(a (b c) ,@d)", -far, 5, "(a\n (b\n  c)\n ,@d)"},
		// What goes on stands in the column behind the parenthesis, and behind the quotes ahead of it.
		{"'(a b)", -far, 5, "'(a\n  b)"},
		{"`,@(a b)", -far, 7, "`,@(a\n    b)"},
		{"(\u20ac '(a b))", 10, far, "(\u20ac '(a b))"},
		{"(\u20ac '(a b))", 8, 9, "(\u20ac\n '(a b))"},
		{"(\u20ac '(a b))", -far, 7, "(\u20ac\n '(a\n   b))"},
		// A line end within a string is a column like any other character.
		{"(\"a\nb\" c)", 9, far, "(\"a\nb\" c)"},
		{"(\"a\nb\" c)", -far, 8, "(\"a\nb\"\n c)"},
	} {
		c.holds(t, true)
	}
}

// P11.1: the errors, and where they are.
func TestErrors(t *testing.T) {
	for s, at := range map[string]int{
		"": 0, " ": 1, " \t\n\r ": 5, "[": 1, "[ ": 2, "{": 1, "]": 0, "}": 0, "[}": 1, "{]": 1, "[1": 2, "[1,": 3, "[1, ": 4, "[,": 1, "[1 2]": 3, "[1]]": 3, "[1] 2": 4, "1 2": 2, "1,": 1, `"a`: 2, `"a\`: 3, "tru": 3, "truE": 3, "01": 1, "1.": 2, "-": 1, "+1": 0,
		`{"a"`: 4, `{"a" `: 5, `{"a":`: 5, `{"a":1`: 6, `{"a":1,`: 7, `{"a":1,}`: 7, `{"a",`: 4, `{"a":,`: 5, "{1:": 1, "{a": 1, `{"a":1]`: 6, `{"a":'`: 5, `["a":`: 4, "[[],": 4, "[[]": 3, "'1": 0, "[\"\n\"]": 2, "\x00": 0,
	} {
		fails(t, s, false, at, api.ErrSyntax)
	}
	for s, at := range map[string]int{
		"": 0, " ": 1, " \t\n\r ": 5, "(": 1, "( ": 2, ")": 0, "())": 2, "(a": 2, "(a ": 3, "((a)": 4, "a b": 2, "a)": 1, "a(": 1, "() a": 3, `"a`: 2, `"a\`: 3, `"a\"`: 4, "'": 1, ",@": 2, "' ": 2, "')": 1, "(')": 2, "(a ,@)": 5, ", @a": 2, "@a": 0, "(a (b c) , @)": 11, ";": 0, "(a ;b": 3, "\x00": 0, "(\x7f": 1, "a'b": 1,
	} {
		fails(t, s, true, at, api.ErrSyntax)
	}
	for _, lisp := range []bool{false, true} {
		fails(t, "", lisp, 0, api.ErrSyntax)
		if l, at, e := Items(nil, lisp); len(l) != 0 || at != 0 || e != api.ErrSyntax {
			t.Errorf("Items(nil, %v) = %v, %d, %d", lisp, l, at, e)
		}
		if s, at, e := Format(nil, lisp, 80); s != "" || at != 0 || e != api.ErrSyntax {
			t.Errorf("Format(nil, %v) = %q, %d, %d", lisp, s, at, e)
		}
		if l, at, e := Read(nil, lisp); len(l) != 0 || at != 0 || e != api.ErrSyntax {
			t.Errorf("Read(nil, %v) = %v, %d, %d", lisp, l, at, e)
		}
		// The errors of a text come ahead of those of its result.
		n := 2 * api.MaxText
		fails(t, strings.Repeat(" ", n), lisp, n, api.ErrSyntax)
		fails(t, `"`+strings.Repeat("a", n), lisp, n+1, api.ErrSyntax)
		fails(t, `"`+strings.Repeat("a", n)+`" 1`, lisp, n+3, api.ErrSyntax)
	}
}

// P11.1: texts that end too soon, and each byte instead of each byte of a text, and ahead of it.
func TestBytes(t *testing.T) {
	for _, c := range []struct {
		s    string
		lisp bool
	}{{richJSON, false}, {richSexp, true}} {
		s := strings.TrimRight(c.s, " \t\r\n")
		for n := range len(s) {
			fails(t, s[:n], c.lisp, n, api.ErrSyntax)
		}
	}
	for _, c := range []struct {
		s    string
		lisp bool
	}{{"{\"a\" : [1.5,\n{}, true],\"\\t\":{ } }", false}, {"[]", false}, {"( a '\"b \\\" \" ,@(`() , d))\n", true}, {"'a", true}} {
		for at := range len(c.s) + 1 {
			for b := range 256 {
				ahead := c.s[:at] + string([]byte{byte(b)})
				either(t, ahead+c.s[at:], c.lisp)
				either(t, ahead+c.s[min(at+1, len(c.s)):], c.lisp)
			}
		}
	}
}

// P11.1: all texts of a few parts, right or wrong.
func TestShort(t *testing.T) {
	var more func(some []string, s string, lisp bool, left int)
	more = func(some []string, s string, lisp bool, left int) {
		either(t, s, lisp)
		for _, p := range some {
			if left > 0 && !t.Failed() {
				more(some, s+p, lisp, left-1)
			}
		}
	}
	more([]string{"[", "]", "{", "}", `"a"`, ":", ",", "1"}, "", false, 4)
	more([]string{`"a":`, "{", "}", ",", "[", "]", "1"}, "{", false, 4)
	more([]string{"[", "]", ",", "1 "}, "[", false, 6)
	more([]string{"(", ")", "'", ",", "@", "a", " "}, "", true, 4)
	more([]string{"(", ")", ",@", "a "}, "(", true, 6)
}

// tooDeep is the offset of the first list of a text that is within MaxDepth others.
func tooDeep(t *testing.T, s string, lisp bool) int {
	t.Helper()
	parts := jsonParts
	if lisp {
		parts = sexpParts
	}
	depth := 0
	for _, at := range parts.FindAllStringIndex(s, -1) {
		switch s[at[0]] {
		case '[', '{', '(':
			if depth == api.MaxDepth {
				return at[0]
			}
			depth++
		case ']', '}', ')':
			depth--
		}
	}
	t.Fatalf("%.60q is not too deep", s)
	return 0
}

// P11.1, P11.2: lists within MaxDepth others, and one more.
func TestDeep(t *testing.T) {
	n := api.MaxDepth
	for _, c := range []struct {
		n                   int // how often may be opened
		open, inner, closes string
		lisp                bool
	}{
		{n, "[", "1", "]", false},
		{n - 1, "[", "[\n]", "]", false},
		{n - 1, "[", "{ }", "]", false},
		{n - 1, " [\n1,", "2", ",[ ]]", false},
		{n, `{"a":`, `"b"`, "}", false},
		{n - 1, `{"a":`, "[ ]", "}", false},
		{n / 2, `[1,{"[":`, "null", ` },"{" ]`, false},
		{n - 1, `{"a":1,"b":`, "2", `,"c" : { } }`, false},
		{n, "(", "a", ")", true},
		{n - 1, "(", "( )", ")", true},
		{n, "(a ", `"b"`, " c)", true},
		{n - 1, "'(", "'()", ")", true},
		{n - 1, "`,@( () ", "a", "d )", true},
		{n / 2, `( ")" ,(c `, "'d", `") (" ) "(")`, true},
	} {
		s := strings.Repeat(c.open, c.n) + c.inner + strings.Repeat(c.closes, c.n)
		items(t, s, c.lisp, modelOf(s, c.lisp))
		for _, width := range []int{-far, 0, 1, 80, 1000, 4000, far} {
			holds(t, s, c.lisp, width)
		}
		deeper := strings.Repeat(c.open, c.n+1) + c.inner + strings.Repeat(c.closes, c.n+1)
		at := tooDeep(t, deeper, c.lisp)
		fails(t, deeper, c.lisp, at, api.ErrDeep)
		fails(t, deeper[:at+1], c.lisp, at, api.ErrDeep)
		fails(t, deeper[:at], c.lisp, at, api.ErrSyntax)
	}
	brackets := strings.Repeat("[", n) + strings.Repeat("]", n)
	formats(t, brackets, false, 2*n, brackets, api.OK)
	formats(t, brackets, false, 2*n-1, "", api.ErrLong)
	lists := strings.Repeat("(", n) + strings.Repeat(")", n)
	formats(t, lists, true, 0, lists, api.OK)
	// The one error or the other, whichever comes first.
	fails(t, strings.Repeat("[", n)+",[", false, n, api.ErrSyntax)
	fails(t, strings.Repeat("[", n)+"[,", false, n, api.ErrDeep)
	fails(t, strings.Repeat("(", n)+";(", true, n, api.ErrSyntax)
	fails(t, strings.Repeat("(", n)+"(;", true, n, api.ErrDeep)
}

// longest checks that a result is refused, if it has more than MaxText bytes.
func longest(t *testing.T, s string, lisp bool, width int, want string) {
	t.Helper()
	if len(want) > api.MaxText {
		formats(t, s, lisp, width, "", api.ErrLong)
		return
	}
	formats(t, s, lisp, width, want, api.OK)
	steady(t, s, lisp, width, want)
}

// P11.1, P11.2: results of MaxText bytes, and of one more.
func TestLong(t *testing.T) {
	n := api.MaxText
	for _, size := range []int{n, n + 1} {
		for _, width := range []int{-far, 0, 80, n, far} {
			for _, lisp := range []bool{false, true} {
				number := strings.Repeat("1", size)
				longest(t, number, lisp, width, number)
				longest(t, " "+number+"\n", lisp, width, number)
				quoted := `"` + strings.Repeat("a", size-2) + `"`
				longest(t, quoted, lisp, width, quoted)
				// Bytes are counted, not characters.
				wide := strings.Repeat("\u20ac", size/3-1) + strings.Repeat("a", 1+size%3)
				longest(t, `"`+wide+`"`, lisp, width, `"`+wide+`"`)
			}
			quotes := strings.Repeat("'", size-1)
			longest(t, quotes+"a", true, width, quotes+"a")
			longest(t, strings.Repeat("' ", size-1)+"a", true, width, quotes+"a")
			longest(t, quotes[2:]+"(a)", true, width, quotes[2:]+"(a)")
		}
		// The width decides how long a result is. A star stands for a number.
		for _, c := range []struct {
			s, flat, broken string
			lisp            bool
		}{
			{"[*]", "[*]", "[\n  *\n]", false},
			{"[*,2]", "[*, 2]", "[\n  *,\n  2\n]", false},
			{`{"" :*}`, `{"": *}`, "{\n  \"\": *\n}", false},
			{"(\n*)", "(*)", "(*)", true},
			{"(* b)", "(* b)", "(*\n b)", true},
			{"'(* b)", "'(* b)", "'(*\n  b)", true},
		} {
			star := func(s, number string) string { return strings.Replace(s, "*", number, 1) }
			for _, result := range []string{c.flat, c.broken} {
				number := strings.Repeat("1", size-len(result)+1)
				flat := star(c.flat, number)
				longest(t, star(c.s, number), c.lisp, len(flat), flat)
				longest(t, star(c.s, number), c.lisp, far, flat)
				longest(t, star(c.s, number), c.lisp, len(flat)-1, star(c.broken, number))
				longest(t, star(c.s, number), c.lisp, -far, star(c.broken, number))
			}
		}
	}
	// What is read may be longer than what comes of it.
	blanks := strings.Repeat(" \n", n)
	longest(t, blanks+"["+blanks+"]"+blanks, false, 0, "[]")
	longest(t, blanks+"("+blanks+")"+blanks, true, 0, "()")
	longest(t, "[1"+blanks+","+blanks+"2]", false, 6, "[1, 2]")
	// More items than layout has to take.
	formats(t, "["+strings.Repeat("1,", 1<<20)+"1]", false, 80, "", api.ErrLong)
	formats(t, "("+strings.Repeat("a ", 1<<20)+")", true, 80, "", api.ErrLong)
	formats(t, strings.Repeat("'", 1<<21)+"a", true, 80, "", api.ErrLong)
}

// some is one of a few texts.
func some(r *rand.Rand, l ...string) string { return l[r.Intn(len(l))] }

// blanks is blanks, or none.
func blanks(r *rand.Rand) string { return some(r, "", "", " ", "\n", "\t", "\r\n  ") }

// randomJSON is a value at random, in which a number of lists may be in one another.
func randomJSON(r *rand.Rand, deep int) string {
	var b strings.Builder
	open, closes := "[", "]"
	switch r.Intn(5) {
	case 0:
		open, closes = "{", "}"
	case 1:
		deep = 0
	}
	if deep == 0 {
		return some(r, "1", "-2.5e3", "true", "null", `""`, `"a b"`, "\"\u20ac,]\"", `"\"}"`, "[]", "{ }", "[\n]", `"abcdefghij"`)
	}
	b.WriteString(open)
	for i := range r.Intn(5) {
		if i > 0 {
			b.WriteString(",")
		}
		if open == "{" {
			b.WriteString(blanks(r) + some(r, `"a"`, `"b:c"`, "\"\xff\"", `""`) + blanks(r) + ":")
		}
		b.WriteString(blanks(r) + randomJSON(r, deep-1) + blanks(r))
	}
	return b.String() + blanks(r) + closes
}

// randomSexp is the same as an expression.
func randomSexp(r *rand.Rand, deep int) string {
	var b strings.Builder
	for r.Intn(4) == 0 {
		b.WriteString(some(r, "'", "`", ",", ",@") + blanks(r))
	}
	if deep == 0 || r.Intn(5) == 0 {
		return b.String() + some(r, "a", "b@c", "1.5", "\u20ac\xff", `""`, `"a b"`, "\"\n)\"", `"\""`, "()", "( )", "abcdefghij", "[]")
	}
	b.WriteString("(")
	for range r.Intn(6) {
		b.WriteString(blanks(r) + randomSexp(r, deep-1) + some(r, " ", "\n", "\t "))
	}
	return b.String() + blanks(r) + ")"
}

// P11.1, P11.2: trees at random, in each width. How a text is laid out hangs on its tokens alone, not on how it was laid out before.
func TestRandom(t *testing.T) {
	r := rand.New(rand.NewSource(11))
	for range 400 {
		for lisp, s := range map[bool]string{false: randomJSON(r, 5), true: randomSexp(r, 5)} {
			s = blanks(r) + s + blanks(r)
			items(t, s, lisp, modelOf(s, lisp))
			other, _, e := Format([]byte(s), lisp, r.Intn(80))
			if e != api.OK {
				t.Fatalf("Format(%q, %v): %d", s, lisp, e)
			}
			for _, width := range []int{-far, 0, 1, r.Intn(20), r.Intn(40), r.Intn(80), r.Intn(200), 80, far} {
				holds(t, s, lisp, width)
				want, _, _ := Format([]byte(s), lisp, width)
				formats(t, other, lisp, width, want, api.OK)
			}
		}
	}
}

// P2: a text is read and laid out in the same way each time, whatever was ahead of it, and answers share no memory.
func TestSame(t *testing.T) {
	for _, lisp := range []bool{false, true} {
		s := map[bool]string{false: richJSON, true: richSexp}[lisp]
		p := []byte(s)
		one, _, _ := Items(p, lisp)
		tokens, _, _ := Read(p, lisp)
		result, _, _ := Format(p, lisp, 20)
		// Those that fail leave nothing behind.
		either(t, strings.Repeat("[", 600), lisp)
		either(t, strings.Repeat("(", 600), lisp)
		either(t, `{"a":1,`, !lisp)
		other, _, _ := Items(p, lisp)
		again, _, _ := Read(p, lisp)
		if !slices.Equal(one, other) || !slices.Equal(tokens, again) {
			t.Errorf("other answers: %s, not %s; %v, not %v", few(other), few(one), again, tokens)
		}
		formats(t, s, lisp, 20, result, api.OK)
		one[0], tokens[0] = api.Item{}, api.Token{}
		_, _ = append(one[:1], api.Item{N: 9}), append(tokens[:1], api.Token{N: 9})
		want := strings.Clone(result)
		clear(p)
		if !slices.Equal(other, modelOf(s, lisp)) || again[0].Kind != api.Open || result != want {
			t.Errorf("an answer has changed: %s; %v; %q", few(other), again[0], result)
		}
	}
	// Bytes behind the text do not count.
	long := []byte("[1,2],")
	if s, at, e := Format(long[:5], false, 80); s != "[1, 2]" || at != 0 || e != api.OK {
		t.Errorf("of a part of a text: %q, %d, %d", s, at, e)
	}
	if _, at, e := Format(long[:3], false, 80); at != 3 || e != api.ErrSyntax {
		t.Errorf("of a shorter part: %d, %d", at, e)
	}
	if string(long) != "[1,2]," {
		t.Errorf("the argument has changed: %q", long)
	}
}
