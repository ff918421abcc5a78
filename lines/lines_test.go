package lines

import (
	"bytes"
	"math"
	"slices"
	"strings"
	"testing"

	"platen/api"
)

// texts are texts by their lines: joined by terminators, they must be found again.
var texts = [][]string{
	{""},
	{"a"},
	{"", ""},
	{"a", ""},
	{"", "a"},
	{"a", "b"},
	{"ab", "", "\tc"},
	{"", "", "", ""},
	{"a", "", "", "b", ""},
	{" ", "\t", " \t", "\t a \t"},
	{"a\r", "\r", ""},
	{"a\v\f\u0085\u2028b", "\x00"},
	{"\u20ac", "\u00e9\U0001f600", ""},
	{"\xe2\x82", "\xac", "\x80\xff"},
	{strings.Repeat("x", 300), strings.Repeat("\t", 300)},
	strings.Split(strings.Repeat("y\n", 500), "\n"),
}

// below are offsets, and lines, that are below 0.
var below = []int{math.MinInt, math.MinInt + 1, -99, -2, -1}

// above are distances from the end, or from the last line, upward.
var above = []int{1, 2, 99, math.MaxInt - 100000}

// checkText holds P3.1 for a text with the given lines.
func checkText(t *testing.T, l []string) {
	t.Helper()
	p := []byte(strings.Join(l, "\n"))
	if n := Count(p); n != len(l) {
		t.Errorf("Count(%q) = %d, not %d", p, n, len(l))
	}
	if s := Split(p); !slices.Equal(s, l) {
		t.Errorf("Split(%q) = %q, not %q", p, s, l)
	}
	at := 0
	for i, s := range l {
		if k, ok := Span(p, i); !ok || k != (api.Span{At: at, N: len(s)}) {
			t.Errorf("Span(%q, %d) = %v, %v", p, i, k, ok)
		}
		// The terminator, or the end, is still of the line that it follows.
		for k := at; k <= at+len(s); k++ {
			if n := Of(p, k); n != i {
				t.Errorf("Of(%q, %d) = %d, not %d", p, k, n, i)
			}
		}
		at += len(s) + 1
	}
	checkOutside(t, p, len(l))
}

// checkOutside holds what P3.1 says of offsets and lines that a text of so many lines does not have.
func checkOutside(t *testing.T, p []byte, count int) {
	t.Helper()
	for _, k := range below {
		if n := Of(p, k); n != 0 {
			t.Errorf("Of(%q, %d) = %d", p, k, n)
		}
		if s, ok := Span(p, k); ok || s != (api.Span{}) {
			t.Errorf("Span(%q, %d) = %v, %v", p, k, s, ok)
		}
	}
	for _, k := range above {
		if n := Of(p, len(p)+k); n != count-1 {
			t.Errorf("Of(%q, %d) = %d", p, len(p)+k, n)
		}
		if s, ok := Span(p, count-1+k); ok || s != (api.Span{}) {
			t.Errorf("Span(%q, %d) = %v, %v", p, count-1+k, s, ok)
		}
	}
	if s, ok := Span(p, math.MaxInt); ok || s != (api.Span{}) || Of(p, math.MaxInt) != count-1 {
		t.Errorf("%q: the greatest number", p)
	}
}

// P3.1: lines and their numbers.
func TestLines(t *testing.T) {
	for _, l := range texts {
		checkText(t, l)
	}
}

// P3.1: an empty text has one line, and one that ends with a terminator has an empty one behind it.
func TestEnds(t *testing.T) {
	for _, p := range [][]byte{nil, {}} {
		if Count(p) != 1 || Of(p, 0) != 0 || !slices.Equal(Split(p), []string{""}) {
			t.Error("an empty text")
		}
		if s, ok := Span(p, 0); !ok || s != (api.Span{}) {
			t.Error("Span of an empty text:", s, ok)
		}
		if s, ok := Whole(p, 0, 0); !ok || s != (api.Span{}) {
			t.Error("Whole of an empty text:", s, ok)
		}
	}
	p := []byte("ab\n")
	if Count(p) != 2 || Of(p, 2) != 0 || Of(p, 3) != 1 || !slices.Equal(Split(p), []string{"ab", ""}) {
		t.Error("a text that ends with a terminator")
	}
	if s, ok := Span(p, 1); !ok || s != (api.Span{At: 3}) {
		t.Error("Span of its last line:", s, ok)
	}
	if s, ok := Whole(p, 1, 1); !ok || s != (api.Span{At: 3}) {
		t.Error("Whole of its last line:", s, ok)
	}
}

// eachText calls f with all texts of up to n bytes of an alphabet.
func eachText(alphabet string, n int, f func(p []byte)) {
	var grow func(p []byte)
	grow = func(p []byte) {
		f(p)
		if len(p) == n {
			return
		}
		for i := range len(alphabet) {
			grow(append(bytes.Clone(p), alphabet[i]))
		}
	}
	grow(nil)
}

// cut returns the lines of a text, byte by byte.
func cut(p []byte) []string {
	l := []string{""}
	for _, c := range p {
		if c == 0x0a {
			l = append(l, "")
			continue
		}
		l[len(l)-1] += string([]byte{c})
	}
	return l
}

// P3.1: lines of all short texts.
func TestLinesOfShortTexts(t *testing.T) {
	eachText("a\n\t\xe2", 6, func(p []byte) {
		checkText(t, cut(p))
	})
}

// P3.1: whole lines, in either order, of which both must exist.
func TestWhole(t *testing.T) {
	for _, c := range []struct {
		text string
		a, b int
		want api.Span
		ok   bool
	}{
		{"ab\n\n\tc", 0, 0, api.Span{At: 0, N: 3}, true},
		{"ab\n\n\tc", 1, 1, api.Span{At: 3, N: 1}, true},
		{"ab\n\n\tc", 2, 2, api.Span{At: 4, N: 2}, true},
		{"ab\n\n\tc", 0, 1, api.Span{At: 0, N: 4}, true},
		{"ab\n\n\tc", 1, 0, api.Span{At: 0, N: 4}, true},
		{"ab\n\n\tc", 1, 2, api.Span{At: 3, N: 3}, true},
		{"ab\n\n\tc", 2, 0, api.Span{At: 0, N: 6}, true},
		{"ab\n", 0, 1, api.Span{At: 0, N: 3}, true},
		{"ab\n", 1, 0, api.Span{At: 0, N: 3}, true},
		{"\n\n", 1, 2, api.Span{At: 1, N: 1}, true},
		{"ab\n\n\tc", 2, 3, api.Span{}, false},
		{"ab\n\n\tc", 3, 2, api.Span{}, false},
		{"ab\n\n\tc", 3, 3, api.Span{}, false},
		{"ab\n\n\tc", -1, 0, api.Span{}, false},
		{"ab\n\n\tc", 0, -1, api.Span{}, false},
		{"ab\n\n\tc", -1, -1, api.Span{}, false},
		{"ab\n\n\tc", -1, 3, api.Span{}, false},
		{"ab\n\n\tc", math.MinInt, math.MaxInt, api.Span{}, false},
		{"ab\n\n\tc", math.MaxInt, 1, api.Span{}, false},
		{"ab\n\n\tc", 1, math.MinInt, api.Span{}, false},
		{"", 0, 1, api.Span{}, false},
		{"", 0, -1, api.Span{}, false},
	} {
		if s, ok := Whole([]byte(c.text), c.a, c.b); s != c.want || ok != c.ok {
			t.Errorf("Whole(%q, %d, %d) = %v, %v", c.text, c.a, c.b, s, ok)
		}
	}
}

// P3.1: whole lines of all texts, by all pairs of numbers about them.
func TestWholeOfEachPair(t *testing.T) {
	check := func(l []string) {
		text := strings.Join(l, "\n")
		for a := -2; a < len(l)+2; a++ {
			for b := -2; b < len(l)+2; b++ {
				s, ok := Whole([]byte(text), a, b)
				if min(a, b) < 0 || max(a, b) >= len(l) {
					if ok || s != (api.Span{}) {
						t.Errorf("Whole(%q, %d, %d) = %v, %v", text, a, b, s, ok)
					}
					continue
				}
				head := len(strings.Join(append(slices.Clone(l[:min(a, b)]), ""), "\n"))
				want := strings.Join(l[min(a, b):max(a, b)+1], "\n")
				if max(a, b) < len(l)-1 {
					want += "\n"
				}
				if !ok || s != (api.Span{At: head, N: len(want)}) || text[s.At:s.At+s.N] != want {
					t.Errorf("Whole(%q, %d, %d) = %v, %v", text, a, b, s, ok)
				}
			}
		}
	}
	for _, l := range texts {
		if len(l) < 20 {
			check(l)
		}
	}
	eachText("a\n\x80", 6, func(p []byte) { check(cut(p)) })
}

// P3.2: the blanks with which a line begins; lines of nothing else.
func TestIndent(t *testing.T) {
	for _, c := range []struct {
		line string
		want int
		bare bool
	}{
		{"", 0, true},
		{" ", 1, true},
		{"\t", 1, true},
		{" \t \t", 4, true},
		{"a", 0, false},
		{" a", 1, false},
		{"\t a b ", 2, false},
		{"a ", 0, false},
		{"  \u20ac", 2, false},
		{" \xff ", 1, false},
		{" \u00a0", 1, false},
		{"\u2003", 0, false},
		{" \r", 1, false},
		{"\n", 0, false},
		{"  \n  ", 2, false},
		{"\v", 0, false},
		{"\x00", 0, false},
		{strings.Repeat(" \t", 1000), 2000, true},
	} {
		if n := Indent(c.line); n != c.want {
			t.Errorf("Indent(%q) = %d, not %d", c.line, n, c.want)
		}
		if b := Bare(c.line); b != c.bare {
			t.Errorf("Bare(%q) = %v", c.line, b)
		}
	}
	for c := range 256 {
		blank := c == 0x20 || c == 0x09
		s := string([]byte{byte(c)})
		if Bare(s) != blank || (Indent(s) == 1) != blank {
			t.Errorf("%q", s)
		}
	}
}

// P3.2: columns.
func TestColumn(t *testing.T) {
	for _, c := range []struct {
		text          string
		at, tab, want int
	}{
		{"", 0, 8, 0},
		{"", 5, 8, 0},
		{"", -5, 8, 0},
		{"abc", 0, 8, 0},
		{"abc", 2, 8, 2},
		{"abc", 3, 8, 3},
		{"abc", 4, 8, 3},
		{"abc", math.MaxInt, 8, 3},
		{"abc", -1, 8, 0},
		{"abc", math.MinInt, 8, 0},
		{"ab\n\n\tc", 2, 8, 2},
		{"ab\n\n\tc", 3, 8, 0},
		{"ab\n\n\tc", 4, 8, 0},
		{"ab\n\n\tc", 5, 8, 8},
		{"ab\n\n\tc", 6, 8, 9},
		{"ab\n\n\tc", 7, 8, 9},
		{"ab\n\n\tc", 5, 4, 4},
		{"ab\n", 3, 8, 0},
		{"ab\n", 99, 8, 0},
		{"a\tb", 2, 8, 8},
		{"a\tb", 3, 8, 9},
		{"\ta\tb", 3, 3, 6},
		{"a\t\tb", 3, 1, 3},
		{"a\t\tb", 3, 0, 3},
		{"a\t\tb", 3, -1, 3},
		{"a\t\tb", 4, math.MinInt, 4},
		{"x\n\t\ty", 5, 0, 3},
		{"\t", 1, 1 << 20, 1 << 20},
		{"\u20ac\u00e9\U0001f600x", 3, 8, 1},
		{"\u20ac\u00e9\U0001f600x", 5, 8, 2},
		{"\u20ac\u00e9\U0001f600x", 9, 8, 3},
		{"\u20ac\u00e9\U0001f600x", 10, 8, 4},
		{"\u20ac\n\u20ac\tx", 8, 4, 4},
		{"\xe2\x82x", 2, 8, 2},
		{"\xe2\x82x", 3, 8, 3},
		{"\xff\x80\t\xac", 3, 2, 4},
		{"\xff\n\x80\x80\x80\t.", 6, 4, 4},
		{"\u20ac", 1, 8, 1}, // the bytes before the offset are no rune
		{"\u20ac", 2, 8, 2},
		{"a\rb\x00", 4, 8, 4},
	} {
		if k := Column([]byte(c.text), c.at, c.tab); k != c.want {
			t.Errorf("Column(%q, %d, %d) = %d, not %d", c.text, c.at, c.tab, k, c.want)
		}
	}
}

// wide returns the column after a line's bytes: a rune, or a byte of none, is one column; a tab goes to the next multiple.
func wide(line string, tab int) int {
	col := 0
	for _, r := range line {
		if r == '\t' {
			col = (col/tab + 1) * tab
			continue
		}
		col++
	}
	return col
}

// P3.2: columns of all offsets of all short texts, and of those about them.
func TestColumnOfShortTexts(t *testing.T) {
	eachText("a\n\t\xe2\x82\xac", 5, func(p []byte) {
		for at := -1; at <= len(p)+1; at++ {
			l := cut(p[:min(max(at, 0), len(p))])
			for tab := -1; tab <= 4; tab++ {
				want := wide(l[len(l)-1], max(tab, 1))
				if k := Column(p, at, tab); k != want {
					t.Errorf("Column(%q, %d, %d) = %d, not %d", p, at, tab, k, want)
				}
			}
		}
	})
}

// P1: nothing panics, and all ends, for all numbers, and for nil.
func TestNoPanic(t *testing.T) {
	odd := []int{math.MinInt, -9, -1, 0, 1, 2, 9, math.MaxInt - 1, math.MaxInt}
	for _, p := range [][]byte{nil, {}, []byte("\n"), []byte("a\t\xe2\x82\n\t\t\n"), bytes.Repeat([]byte("\n"), api.MaxText)} {
		Count(p)
		Split(p)
		Indent(string(p))
		Bare(string(p))
		for _, a := range odd {
			Of(p, a)
			Span(p, a)
			for _, b := range odd {
				Whole(p, a, b)
				Column(p, a, b)
			}
		}
	}
}

// P2: arguments stay as they are, bytes behind their end have no effect, and results are of their own.
func TestMemory(t *testing.T) {
	all := []byte("a\n\t\u20ac\n\nz\t")
	p := all[:6:9]
	was := bytes.Clone(all)
	l := Split(p)
	for at := -1; at <= len(all)+1; at++ {
		Of(p, at)
		Span(p, at)
		Whole(p, at, 1)
		Column(p, at, 4)
	}
	if !bytes.Equal(all, was) {
		t.Errorf("%q", all)
	}
	if Count(p) != 2 || Of(p, 9) != 1 || Column(p, 9, 4) != 5 {
		t.Error("bytes behind the end")
	}
	if s, ok := Whole(p, 1, 1); !ok || s != (api.Span{At: 2, N: 4}) {
		t.Error("bytes behind the end:", s, ok)
	}
	clear(all)
	if !slices.Equal(l, []string{"a", "\t\u20ac"}) {
		t.Errorf("lines that were returned have changed: %q", l)
	}
	q := []byte("x\ny")
	m := Split(q)
	m[0] = "z"
	_ = append(m, "w")
	if !slices.Equal(Split(q), []string{"x", "y"}) {
		t.Errorf("%q", Split(q))
	}
}
