package glyph

import (
	"bytes"
	"math"
	"strings"
	"testing"
	"unicode/utf8"
)

// parts are the characters of texts, as they must be found: encodings of runes, and bytes that are part of none.
var parts = [][]string{
	nil,
	{"a"},
	{"a", "\t", " ", "\n", "\x00", "\x7f"},
	{"\u00e9", "a", "\u20ac", "\U0001f600", "\ufffd", "\U0010ffff", "\u0301"},
	{"\x80"},
	{"\x80", "\xbf", "\xff", "\xfe", "\xc0", "a"},
	{"\xe2", "\x82"},
	{"\u20ac", "\x82", "a"},
	{"\xe2", "\u20ac", "\xf0", "\x9f", "\x98"},
	{"\xc3", "\xc3", "\u00e9"},
	{"\xc0", "\x80"},                 // too long for what it says
	{"\xe0", "\x80", "\x80"},         // too
	{"\xed", "\xa0", "\x80"},         // a half of a surrogate pair
	{"\xf4", "\x90", "\x80", "\x80"}, // above the last rune
	{"\x80", "\x80", "\x80", "\x80", "\x80"},
	{"\U0001f600", "\x80", "\x80", "\x80"},
}

// starts returns the offsets at which characters begin, in the order of the text, and the end.
func starts(p []byte) []int {
	l := []int{0}
	for at := 0; at < len(p); {
		_, n := utf8.DecodeRune(p[at:])
		at += n
		l = append(l, at)
	}
	return l
}

// checkText holds P1.1 for a text whose characters begin at the given offsets (the last of which is the end).
func checkText(t *testing.T, p []byte, l []int) {
	t.Helper()
	if n := Count(p); n != len(l)-1 {
		t.Errorf("Count(%q) = %d, not %d", p, n, len(l)-1)
	}
	for i := range len(l) - 1 {
		n := l[i+1] - l[i]
		if k := Next(p, l[i]); k != n {
			t.Errorf("Next(%q, %d) = %d, not %d", p, l[i], k, n)
		}
		if k := Prev(p, l[i+1]); k != n {
			t.Errorf("Prev(%q, %d) = %d, not %d", p, l[i+1], k, n)
		}
		for at := l[i]; at < l[i+1]; at++ {
			if k := Floor(p, at); k != l[i] {
				t.Errorf("Floor(%q, %d) = %d, not %d", p, at, k, l[i])
			}
		}
	}
	if k := Floor(p, len(p)); k != len(p) {
		t.Errorf("Floor(%q, the end) = %d", p, k)
	}
}

// P1.1: characters.
func TestCharacters(t *testing.T) {
	for _, l := range parts {
		at := []int{0}
		for _, s := range l {
			at = append(at, at[len(at)-1]+len(s))
		}
		checkText(t, []byte(strings.Join(l, "")), at)
	}
}

// eachText calls f with all texts of up to n bytes of an alphabet.
func eachText(alphabet string, n int, f func(p []byte)) {
	var grow func(p []byte)
	grow = func(p []byte) {
		f(p)
		if len(p) == n {
			return
		}
		for i := range len(alphabet) {
			grow(append(bytes.Clone(p), alphabet[i]))
		}
	}
	grow(nil)
}

// P1.1: characters of all short texts of bytes that begin, continue or break runes; inside of them, too.
func TestCharactersOfShortTexts(t *testing.T) {
	eachText("a\x80\x9f\xa0\xc3\xe0\xe2\xed\xf0\xf4", 5, func(p []byte) {
		checkText(t, p, starts(p))
		for at := range len(p) {
			if _, n := utf8.DecodeRune(p[at:]); Next(p, at) != n {
				t.Errorf("Next(%q, %d) = %d, not %d", p, at, Next(p, at), n)
			}
			if _, n := utf8.DecodeLastRune(p[:at+1]); Prev(p, at+1) != n {
				t.Errorf("Prev(%q, %d) = %d, not %d", p, at+1, Prev(p, at+1), n)
			}
		}
	})
}

// P1.1: Next and Prev inside a character take the bytes from there on, and up to there.
func TestInsideCharacter(t *testing.T) {
	p := []byte("\U0001f600")
	for at := 1; at < 4; at++ {
		if n := Next(p, at); n != 1 {
			t.Error("Next", at, n)
		}
		if n := Prev(p, at); n != 1 {
			t.Error("Prev", at, n)
		}
	}
}

// P1.1: offsets below 0, at the end and above it.
func TestOutside(t *testing.T) {
	for _, s := range []string{"", "a", "\u20ac", "ab\xe2\x82"} {
		p := []byte(s)
		for _, at := range []int{math.MinInt, -1, len(p), len(p) + 1, math.MaxInt} {
			if n := Next(p, at); n != 0 {
				t.Errorf("Next(%q, %d) = %d", p, at, n)
			}
		}
		for _, at := range []int{math.MinInt, -1, 0, len(p) + 1, math.MaxInt} {
			if n := Prev(p, at); n != 0 {
				t.Errorf("Prev(%q, %d) = %d", p, at, n)
			}
		}
		for _, at := range []int{math.MinInt, -1, 0} {
			if k := Floor(p, at); k != 0 {
				t.Errorf("Floor(%q, %d) = %d", p, at, k)
			}
		}
		for _, at := range []int{len(p), len(p) + 1, math.MaxInt} {
			if k := Floor(p, at); k != len(p) {
				t.Errorf("Floor(%q, %d) = %d", p, at, k)
			}
		}
	}
}

// P1.2: blanks are spaces and tabs, and nothing else.
func TestBlank(t *testing.T) {
	for c := range 256 {
		if Blank(byte(c)) != (c == 0x20 || c == 0x09) {
			t.Errorf("Blank(%#x)", c)
		}
	}
}

// P1.2: a step of a tab leads to the next multiple, any other one column on.
func TestStep(t *testing.T) {
	for _, tab := range []int{1, 2, 3, 4, 8, 16, 1 << 20} {
		for _, col := range []int{0, 1, 2, 3, 6, 7, 8, 9, 15, 16, 1<<20 - 1, 1 << 20, 1<<20 + 1, 1<<31 - 1, 1 << 31} {
			k := Step(col, '\t', tab)
			if k <= col || k > col+tab || k%tab != 0 {
				t.Errorf("Step(%d, tab, %d) = %d", col, tab, k)
			}
			for c := range 256 {
				if c != '\t' && Step(col, byte(c), tab) != col+1 {
					t.Errorf("Step(%d, %#x, %d) = %d", col, c, tab, Step(col, byte(c), tab))
				}
			}
		}
	}
	if k := Step(7, '\t', 8); k != 8 {
		t.Error("a tab that spans one column:", k)
	}
}

// P1.2: the column after a text.
func TestWide(t *testing.T) {
	for _, c := range []struct {
		text           string
		col, tab, want int
	}{
		{"a\tb", 0, 8, 9},
		{"", 5, 8, 5},
		{"\t", 7, 8, 8},
		{"\t", 8, 8, 16},
		{"\t\t", 1, 4, 8},
		{"\t\t", 3, 1, 5},
		{"\u20ac\u00e9\U0001f600", 2, 8, 5},
		{"\u20ac\t", 0, 2, 2},
		{"\x80\xe2\x82\t", 0, 4, 4},
		{"\x80\xe2\x82\xff\t", 0, 4, 8},
		{"a\nb", 0, 8, 3},
		{"a", 1 << 31, 8, 1<<31 + 1},
		{"\t", 1 << 31, 1 << 20, 1<<31 + 1<<20},
	} {
		if k := Wide([]byte(c.text), c.col, c.tab); k != c.want {
			t.Errorf("Wide(%q, %d, %d) = %d, not %d", c.text, c.col, c.tab, k, c.want)
		}
	}
}

// P1.2: the character that covers a column.
func TestAt(t *testing.T) {
	for _, c := range []struct {
		text           string
		col, tab, want int
	}{
		{"", 0, 8, 0},
		{"abc", 0, 8, 0},
		{"abc", 2, 8, 2},
		{"abc", 3, 8, 3},
		{"abc", 1 << 31, 8, 3},
		{"a\tb", 0, 8, 0},
		{"a\tb", 1, 8, 1},
		{"a\tb", 7, 8, 1},
		{"a\tb", 8, 8, 2},
		{"a\tb", 9, 8, 3},
		{"abcdefg\th", 7, 8, 7},
		{"abcdefg\th", 8, 8, 8},
		{"\u20ac\u00e9x", 1, 8, 3},
		{"\u20ac\u00e9x", 2, 8, 5},
		{"\xe2\x82x", 1, 8, 1},
		{"\xe2\x82x", 2, 8, 2},
		{"\t\t", 1, 1, 1},
	} {
		if k := At([]byte(c.text), c.col, c.tab); k != c.want {
			t.Errorf("At(%q, %d, %d) = %d, not %d", c.text, c.col, c.tab, k, c.want)
		}
	}
}

// P1.2: blanks from a column to another one.
func TestFill(t *testing.T) {
	for _, c := range []struct {
		from, to, tab int
		expand        bool
		want          string
	}{
		{0, 8, 8, false, "\t"},
		{0, 7, 8, false, "       "},
		{0, 10, 8, false, "\t  "},
		{0, 16, 8, false, "\t\t"},
		{6, 8, 8, false, "\t"},
		{6, 16, 8, false, "\t\t"},
		{7, 8, 8, false, " "},
		{7, 9, 8, false, "  "},
		{7, 16, 8, false, " \t"},
		{3, 3, 8, false, ""},
		{8, 3, 8, false, ""},
		{0, 3, 1, false, "   "},
		{0, 5, 2, false, "\t\t "},
		{1, 5, 2, false, " \t "},
		{1, 6, 2, false, " \t\t"},
		{0, 16, 8, true, strings.Repeat(" ", 16)},
		{0, 1 << 20, 1 << 20, false, "\t"},
		{1<<31 - 2, 1 << 31, 1 << 20, false, "\t"},
		{0, 1 << 31, 1 << 20, false, strings.Repeat("\t", 1<<11)},
		{1 << 31, 0, 8, false, ""},
	} {
		if s := string(Fill(c.from, c.to, c.tab, c.expand)); s != c.want {
			t.Errorf("Fill(%d, %d, %d, %v) = %q, not %q", c.from, c.to, c.tab, c.expand, s, c.want)
		}
	}
}

// P1.2: at each blank Fill takes a tab if, and only if, it is allowed there; and what it gives leads to the column.
func TestFillByEachBlank(t *testing.T) {
	for tab := 1; tab <= 9; tab++ {
		for from := range 20 {
			for to := range 40 {
				for _, expand := range []bool{false, true} {
					col := from
					for _, c := range Fill(from, to, tab, expand) {
						next := (col/tab + 1) * tab
						if allowed := !expand && next <= to && next-col >= 2; allowed != (c == '\t') {
							t.Errorf("Fill(%d, %d, %d, %v): %q in column %d", from, to, tab, expand, c, col)
						}
						if !Blank(c) {
							t.Errorf("Fill(%d, %d, %d, %v): %q", from, to, tab, expand, c)
						}
						col = Step(col, c, tab)
					}
					if col != max(from, to) {
						t.Errorf("Fill(%d, %d, %d, %v) leads to %d", from, to, tab, expand, col)
					}
				}
			}
		}
	}
}

// P1: nothing panics for columns and tabs outside of what is specified, and for nil.
func TestNoPanic(t *testing.T) {
	odd := []int{math.MinInt, -9, -1, 0, 1, 9, math.MaxInt}
	for _, a := range odd {
		for _, tab := range odd {
			for _, p := range [][]byte{nil, {}, []byte("a\t\xe2\x82\t\t")} {
				Step(a, '\t', tab)
				Step(a, 'a', tab)
				Wide(p, a, tab)
				At(p, a, tab)
			}
			Fill(a, a, tab, false)
		}
	}
	for _, tab := range []int{math.MinInt, -1, 0, math.MaxInt} {
		Fill(-3, 20, tab, false)
		Fill(math.MaxInt-9, math.MaxInt, tab, false)
	}
	if Count(nil) != 0 || Next(nil, 0) != 0 || Prev(nil, 0) != 0 || Floor(nil, 3) != 0 || At(nil, 3, 8) != 0 || Wide(nil, 3, 8) != 3 {
		t.Error("nil")
	}
}

// P2: arguments stay as they are, and what is done with a result has no effect on another one.
func TestMemory(t *testing.T) {
	p := []byte("a\t\u20ac\xe2\x82b")[:6:7]
	all := bytes.Clone(p[:7])
	for at := -1; at <= len(p)+1; at++ {
		Next(p, at)
		Prev(p, at)
		Floor(p, at)
		At(p, at, 8)
	}
	Count(p)
	Wide(p, 0, 8)
	if !bytes.Equal(p[:7], all) {
		t.Errorf("%q", p[:7])
	}
	f := Fill(0, 10, 8, false)
	f[0] = 'x'
	_ = append(f, "yyyyyyyy"...)
	if g := Fill(0, 10, 8, false); string(g) != "\t  " {
		t.Errorf("%q", g)
	}
}
