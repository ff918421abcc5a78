package layout

import (
	"fmt"
	"math"
	"math/rand"
	"slices"
	"strings"
	"testing"
	"unicode/utf8"

	"platen/api"
)

// far is how far N, Off and widths may be from 0.
const far = 1 << 31

var (
	begin = api.Item{Kind: api.Begin}
	whole = api.Item{Kind: api.Begin, Whole: true}
	col   = api.Item{Kind: api.Begin, Col: true}
	end   = api.Item{Kind: api.End}
)

func text(s string) api.Item { return api.Item{Kind: api.Text, Text: s} }

func gap(n int) api.Item { return api.Item{Kind: api.Break, N: n} }

// off is an item with another Off.
func off(it api.Item, n int) api.Item {
	it.Off = n
	return it
}

// list puts items, and lists of items, into one list.
func list(parts ...any) []api.Item {
	var l []api.Item
	for _, p := range parts {
		switch x := p.(type) {
		case string:
			l = append(l, text(x))
		case int:
			l = append(l, gap(x))
		case api.Item:
			l = append(l, x)
		case []api.Item:
			l = append(l, x...)
		}
	}
	return l
}

// times is n times an item.
func times(n int, it api.Item) []api.Item {
	return slices.Repeat([]api.Item{it}, n)
}

// model answers by the words of the chapter, one item at a time.
type model struct {
	l    []api.Item
	ends []int // of each Begin: where its End is, or the end of the list
}

func modelOf(l []api.Item) model {
	m := model{l, make([]int, len(l))}
	for i := range l {
		m.ends[i] = len(l)
	}
	for i, it := range l {
		for b := i - 1; it.Kind == api.End && b >= 0; b-- {
			if l[b].Kind == api.Begin && m.ends[b] == len(l) {
				m.ends[b] = i
				break
			}
		}
	}
	return m
}

// within is the innermost group, of those that begin behind an item, that contains the item i; -1, if there is none.
func (m model) within(i, behind int) int {
	for b := i - 1; b > behind; b-- {
		if m.l[b].Kind == api.Begin && m.ends[b] > i {
			return b
		}
	}
	return -1
}

// wide is what an item adds to the sizes of others.
func (m model) wide(i int) int {
	switch m.l[i].Kind {
	case api.Text:
		return utf8.RuneCountInString(m.l[i].Text)
	case api.Break:
		return max(m.l[i].N, 0)
	}
	return 0
}

// reach is what is behind an item, up to the next Break that is not in a group that begins behind it.
func (m model) reach(i int) int {
	n := 0
	for k := i + 1; k < len(m.l); k++ {
		if m.l[k].Kind == api.Break && m.within(k, i) < 0 {
			break
		}
		n += m.wide(k)
	}
	return n
}

func (m model) size(i int) int {
	switch m.l[i].Kind {
	case api.Text:
		return m.wide(i)
	case api.Break:
		return m.wide(i) + m.reach(i)
	case api.Begin:
		n := 0
		for k := i; k < m.ends[i]; k++ {
			n += m.wide(k)
		}
		return n + m.reach(m.ends[i])
	}
	return 0
}

// lay is for results that are not too long.
func (m model) lay(width int) string {
	s := ""
	flat := map[int]bool{}
	indent := map[int]int{}
	for i, it := range m.l {
		// The column is found in the text itself, in which no Text has a line end.
		at := utf8.RuneCountInString(s[strings.LastIndexByte(s, '\n')+1:])
		fits := m.size(i) <= width-at
		in := m.within(i, -1)
		switch it.Kind {
		case api.Text:
			s += it.Text
		case api.Break:
			if flat[in] || fits && (in < 0 || !m.l[in].Whole) {
				s += strings.Repeat(" ", m.wide(i))
			} else {
				s += "\n" + strings.Repeat(" ", max(indent[in]+it.Off, 0))
			}
		case api.Begin:
			flat[i] = fits
			indent[i] = indent[in] + it.Off
			if it.Col {
				indent[i] = at + it.Off
			}
		}
	}
	return s
}

// holds checks what Lay answers against what it must answer.
func holds(t *testing.T, l []api.Item, width int, want string) {
	t.Helper()
	if s, e := Lay(l, width); s != want || e != api.OK {
		t.Errorf("Lay(%s, %d) = %.80q (%d bytes), %d, not %.80q (%d bytes)", few(l), width, s, len(s), e, want, len(want))
	}
}

// long checks that a result has too many bytes.
func long(t *testing.T, l []api.Item, width int) {
	t.Helper()
	if s, e := Lay(l, width); s != "" || e != api.ErrLong {
		t.Errorf("Lay(%s, %d) = %.80q (%d bytes), %d, not ErrLong", few(l), width, s, len(s), e)
	}
}

// sizes checks what Sizes answers against what it must answer.
func sizes(t *testing.T, l []api.Item, want ...int) {
	t.Helper()
	if z := Sizes(l); !slices.Equal(z, want) {
		t.Errorf("Sizes(%s) = %v, not %v", few(l), z[:min(len(z), 20)], want[:min(len(want), 20)])
	}
}

// few is the beginning of a list, which may be too long to be told.
func few(l []api.Item) string {
	s := fmt.Sprint(l[:min(len(l), 20)])
	return fmt.Sprint(len(l), " items ", s[:min(len(s), 400)])
}

// check holds Sizes and Lay against the words of the chapter.
func check(t *testing.T, l []api.Item, widths ...int) {
	t.Helper()
	m := modelOf(l)
	want := make([]int, len(l))
	for i := range l {
		want[i] = m.size(i)
	}
	sizes(t, l, want...)
	for _, w := range widths {
		holds(t, l, w, m.lay(w))
	}
}

// P10.1: the sizes of Texts, of Breaks, of Begins and of all others.
func TestSizes(t *testing.T) {
	sizes(t, nil)
	sizes(t, []api.Item{})
	for _, c := range []struct {
		l    []api.Item
		want []int
	}{
		// Texts.
		{list(""), []int{0}},
		{list("abc"), []int{3}},
		{list("ab", "c"), []int{2, 1}},
		{list("\u00e9\u20ac\U0001f600"), []int{3}},
		{list("\xe2\x82\xff"), []int{3}},
		{list("\xe2", "\x82\xac"), []int{1, 2}},
		{list("a\tb\nc"), []int{5}},
		{[]api.Item{{Kind: api.Text, Text: "a", N: 7, Off: 7, Col: true, Whole: true}}, []int{1}},
		// Breaks: up to the next one.
		{list(3), []int{3}},
		{list(0), []int{0}},
		{list(-3), []int{0}},
		{list(1, "ab", "c"), []int{4, 2, 1}},
		{list(2, "a", 3, "bcd", 4), []int{3, 1, 6, 3, 4}},
		{list(2, 3), []int{2, 3}},
		{list(-2, "a", -3, "bc"), []int{1, 1, 2, 2}},
		{list("ab", 1), []int{2, 1}},
		{list(1, "\u20ac\u20ac"), []int{3, 2}},
		{[]api.Item{{Kind: api.Break, N: 1, Text: "ab", Off: 9, Whole: true, Col: true}}, []int{1}},
		// Breaks: those in a group that begins behind them are passed, those behind it are not.
		{list(1, begin, "a", 2, "b", end, "c", 1, "d"), []int{6, 5, 1, 4, 1, 0, 1, 2, 1}},
		{list(1, begin, "a", -2, "b", end, "c", 1), []int{4, 3, 1, 2, 1, 0, 1, 1}},
		{list(1, begin, begin, 2, end, 3, end, 4), []int{6, 5, 2, 2, 0, 3, 0, 4}},
		{list(1, begin, 2, end, begin, 3, end, 4), []int{6, 5, 5, 0, 3, 3, 0, 4}},
		{list(1, begin, 2), []int{3, 2, 2}},
		// A Break in a group goes on behind the group, up to a Break there.
		{list(begin, 1, end, "ab", 1, "c"), []int{3, 3, 0, 2, 2, 1}},
		{list(begin, begin, 1, end, end, "ab", 1), []int{3, 3, 3, 0, 0, 2, 1}},
		// A group that begins behind the Break is passed, even as deep as the one in which the Break is, and a Break behind that is not.
		{list(begin, 1, end, begin, 2, end, 3), []int{3, 3, 0, 2, 2, 0, 3}},
		{list(begin, 1, "a", end, "b", begin, "c", 2, "d", end, "e", 3, "f"), []int{8, 8, 1, 0, 1, 5, 1, 4, 1, 0, 1, 4, 1}},
		{list(begin, begin, 1, end, begin, 2, end, 3, end), []int{6, 3, 3, 0, 2, 2, 0, 3, 0}},
		// Begins: what is behind the End counts, up to a Break that is in no group beginning there.
		{list(begin, end), []int{0, 0}},
		{list(begin, "ab", end), []int{2, 2, 0}},
		{list(begin, "ab", end, "cd", "e", 9, "f"), []int{5, 2, 0, 2, 1, 10, 1}},
		{list(begin, "ab", end, begin, "c", 2, "d", end, "e", 9), []int{7, 2, 0, 5, 1, 4, 1, 0, 1, 9}},
		{list(begin, 1, "a", 2, "b", 3, end, 4), []int{8, 2, 1, 3, 1, 3, 0, 4}},
		{list(begin, begin, "a", end, "b", 5, "c", end, "d"), []int{9, 2, 1, 0, 1, 7, 1, 0, 1}},
		{list(begin, begin, "a", end, "b", end, "c", 5), []int{3, 3, 1, 0, 1, 0, 1, 5}},
		{[]api.Item{{Kind: api.Begin, N: 5, Text: "ab", Off: 3, Col: true, Whole: true}, {Kind: api.End, N: 5, Text: "ab", Off: 3}}, []int{0, 0}},
		// A Begin without an End.
		{list(begin), []int{0}},
		{list(begin, "a", 1, "b"), []int{3, 1, 2, 1}},
		{list(begin, "a", begin, "b", 1, "c", end, 1, "d", 2), []int{8, 1, 3, 1, 2, 1, 0, 2, 1, 2}},
		{list(1, begin, "a", begin, 2, "b"), []int{5, 4, 1, 3, 3, 1}},
		{list(begin, begin, begin, 1), []int{1, 1, 1, 1}},
		// An End without a Begin.
		{list(end), []int{0}},
		{list(end, "a", end, 1, end, "b", end, 2), []int{0, 1, 0, 2, 0, 1, 0, 2}},
		{list(begin, "a", end, end, "b", 1), []int{2, 1, 0, 0, 1, 1}},
		{list(end, begin, 1, end, end, begin, 2, end), []int{0, 3, 3, 0, 0, 2, 2, 0}},
		// Items of other kinds.
		{[]api.Item{{}, {Kind: 5, N: 3, Text: "ab"}, {Kind: 255, N: 3}}, []int{0, 0, 0}},
		{list(1, api.Item{Kind: 0, N: 9}, "a", api.Item{Kind: 9, Text: "b"}, 1, begin, api.Item{Kind: 7}, 2, end), []int{2, 0, 1, 0, 3, 2, 0, 2, 0}},
		// As far from 0 as may be.
		{list(far, "a", begin, -far, "b", far, end, far), []int{2*far + 2, 1, far + 1, 1, 1, far, 0, far}},
	} {
		sizes(t, c.l, c.want...)
		// The table is held against the words of the chapter too.
		check(t, c.l)
	}
}

// P10.2: how items are printed; the chapter's example.
func TestLay(t *testing.T) {
	for _, c := range []struct {
		l     []api.Item
		width int
		want  string
	}{
		{list(whole, "a", 1, "b", end), 2, "a\nb"},
		{list(whole, "a", 1, "b", end), 3, "a b"},
		// Nothing, Texts alone, and Texts that are too wide.
		{nil, 5, ""},
		{list(""), 0, ""},
		{list("abc", "de"), 0, "abcde"},
		{list("abc", "de"), -7, "abcde"},
		{list(begin, "abc", end, "de"), 2, "abcde"},
		// Breaks outside all groups: each is by itself.
		{list("a", 1, "b", 1, "c"), 5, "a b c"},
		{list("a", 1, "b", 1, "c"), 4, "a b\nc"},
		{list("a", 1, "b", 1, "c"), 3, "a b\nc"},
		{list("a", 1, "b", 1, "c"), 2, "a\nb\nc"},
		{list("a", 1, "b", 1, "cc"), 4, "a b\ncc"},
		{list("a", off(gap(1), 2), "b"), 2, "a\n  b"},
		{list("a", off(gap(1), -2), "b"), 2, "a\nb"},
		{list("a", 3, "b"), 5, "a   b"},
		{list("a", 0, "b"), 2, "ab"},
		{list("a", -3, "b"), 2, "ab"},
		{list("a", -3, "b"), 1, "a\nb"},
		{list(1), 1, " "},
		{list(1), 0, "\n"},
		{list(0), 0, ""},
		{list(0), -1, "\n"},
		// A Break with no Break behind it: what follows counts up to the end.
		{list("a", 1, "b", end, "c", begin, "d", end), 5, "a bcd"},
		{list("a", 1, "b", end, "c", begin, "d", end), 4, "a\nbcd"},
		{list("ab", 2), 4, "ab  "},
		{list("ab", 2), 3, "ab\n"},
		// Groups that are neither flat nor Whole: each of their Breaks is by itself.
		{list(begin, "a", 1, "b", 1, "c", end), 5, "a b c"},
		{list(begin, "a", 1, "b", 1, "c", end), 4, "a b\nc"},
		{list(off(begin, 2), "a", 1, "b", 1, "c", end), 4, "a b\n  c"},
		{list(off(begin, 2), "a", off(gap(1), 1), "b", off(gap(1), -1), "c", end), 2, "a\n   b\n c"},
		// Whole ones: all of them are line ends.
		{list(whole, "a", 1, "b", 1, "c", end), 5, "a b c"},
		{list(whole, "a", 1, "b", 1, "c", end), 4, "a\nb\nc"},
		{list(off(whole, 2), "a", off(gap(9), 1), "b", off(gap(-9), -1), "c", end), 4, "a\n   b\n c"},
		{list(off(whole, 2), "f(", 0, "a", off(gap(0), -2), ")", end), 4, "f(a)"},
		{list(off(whole, 2), "f(", 0, "a", off(gap(0), -2), ")", end), 3, "f(\n  a\n)"},
		// A group that just fits, and one that is a column too wide, by what is in it and by what is behind it.
		{list("xx", 1, whole, "a", 2, "b", end, "c"), 8, "xx a  bc"},
		{list("xx", 1, whole, "a", 2, "b", end, "c"), 7, "xx\na  bc"},
		{list("xx", 1, whole, "a", 2, "b", end, "c"), 5, "xx\na  bc"},
		{list("xx", 1, whole, "a", 2, "b", end, "c"), 4, "xx\na\nbc"},
		{list("xx", whole, "a", 2, "b", end, "c"), 7, "xxa  bc"},
		{list("xx", whole, "a", 2, "b", end, "c"), 6, "xxa\nbc"},
		{list(whole, "a", 1, "b", end, 1, "c"), 3, "a b\nc"},
		{list(whole, "a", 1, "b", end, "c", 1, "d"), 3, "a\nbc\nd"},
		{list(whole, "a", 1, "b", end, begin, "c", 1, "d", end), 4, "a\nbc d"},
		{list(whole, "a", 1, "b", end, begin, "c", 1, "d", end), 6, "a bc d"},
		// A flat group in one that isn't, and the other way round.
		{list(whole, "a", 1, whole, "b", 1, "c", end, 1, "d", end), 4, "a\nb c\nd"},
		{list(begin, "a", 1, whole, "b", 1, "c", end, end), 5, "a b c"},
		{list(begin, "a", 1, whole, "b", 1, "c", end, end), 4, "a\nb c"},
		{list(off(begin, 1), "a", 1, whole, "b", 1, "c", end, 1, "d", end), 3, "a\n b\n c\n d"},
		// Groups behind a Break that isn't flat begin in its line.
		{list("aaa", off(gap(1), 2), whole, "b", 1, "c", end), 5, "aaa\n  b c"},
		{list("aaa", off(gap(1), 2), whole, "b", 1, "c", end), 4, "aaa\n  b\nc"},
		// Indentations: of the group around, or the column, with Col; and Off.
		{list("x", col, "a", 1, "b", end), 2, "xa\n b"},
		{list("x", off(col, 2), "a", 1, "b", end), 2, "xa\n   b"},
		{list("x", off(col, -2), "a", 1, "b", end), 2, "xa\nb"},
		{list("x", off(col, -2), "a", off(gap(1), 3), "b", end), 2, "xa\n  b"},
		{list("\u20ac\u20ac", col, "a", 1, "b", end), 3, "\u20ac\u20aca\n  b"},
		{list("\xe2\x82", col, "a", 1, "b", end), 3, "\xe2\x82a\n  b"},
		{list("x", 1, off(col, 1), "a", 1, "b", end), 2, "x\na\n b"},
		{list(off(begin, 3), "x", col, "a", 1, "b", end, 1, "c", end), 1, "xa\n b\n   c"},
		{list(off(begin, 3), off(begin, 2), "a", 1, "b", end, 1, "c", end, 1, "d"), 1, "a\n     b\n   c\nd"},
		{list(off(begin, 3), off(begin, -2), "a", 1, "b", end, 1, "c"), 1, "a\n b\n   c"},
		// An indentation below 0 stays so for what is in the group, but there are no spaces.
		{list(off(begin, -3), "a", 1, "b", off(gap(1), 5), "c", off(begin, 4), "d", 1, "e"), 1, "a\nb\n  cd\n e"},
		{list("a", off(begin, -3), 1, col, "b", 1, "c"), 1, "a\nb\nc"},
		// After an indentation of none, the column is 0.
		{list(off(begin, -3), "a", 1, "b", 1, "c"), 3, "a b\nc"},
		// A Begin without an End, and an End without a Begin.
		{list("a", off(whole, 1), "b", 1, "c", 1, "d"), 6, "ab c d"},
		{list("a", off(whole, 1), "b", 1, "c", 1, "d"), 5, "ab\n c\n d"},
		{list("a", end, 1, end, "b"), 3, "a b"},
		{list("a", end, 1, end, "b"), 2, "a\nb"},
		{list(end, off(whole, 1), "a", 1, end, end, "b", 1, "c"), 2, "a\n b\nc"},
		{list(off(whole, 1), end, "a", 1, "b", 1, "c"), 4, "a b\nc"},
		// Items of other kinds.
		{list(api.Item{Kind: 0, Text: "x", N: 3}, "a", api.Item{Kind: 5, Off: 3, Whole: true, Col: true}, 1, api.Item{Kind: 255, Text: "y"}, "b"), 2, "a\nb"},
		{list(api.Item{}), 0, ""},
		// Fields that a kind does not have.
		{[]api.Item{{Kind: api.Text, Text: "a", N: 3, Off: 3, Whole: true, Col: true}, {Kind: api.Break, N: 1, Text: "x", Whole: true, Col: true}, {Kind: api.Begin, N: 3, Text: "y"}, {Kind: api.End, N: 3, Off: 3, Text: "z"}, text("b")}, 3, "a b"},
		// A Text's line end is a character as any other.
		{list("a\nb", col, "c", 1, "d"), 4, "a\nbc\n   d"},
		{list("a\tb", 1, "d"), 5, "a\tb d"},
	} {
		holds(t, c.l, c.width, c.want)
	}
}

// P10.1, P10.2: N, Off and widths that are as far from 0 as may be.
func TestFar(t *testing.T) {
	// Widths.
	for _, s := range []struct {
		l          []api.Item
		wide, slim string
	}{
		{list("a", 1, "b"), "a b", "a\nb"},
		{list(whole, "a", 1, "b", 0, "c", end), "a bc", "a\nb\nc"},
		{list(0), "", "\n"},
		{list(begin, end), "", ""},
	} {
		holds(t, s.l, far, s.wide)
		holds(t, s.l, -far, s.slim)
	}
	// An N, far above 0 and below it.
	holds(t, list("a", far), far, "a\n")
	holds(t, list(far), far-1, "\n")
	holds(t, list(whole, far, "a", end), far, "\na")
	holds(t, list(off(begin, 2), far, "a", end), -far, "\n  a")
	holds(t, list("a", -far, "b"), 2, "ab")
	holds(t, list(whole, "a", -far, -far, "b"), 1, "a\n\nb")
	long(t, list(far), far)
	long(t, list(begin, far, end), far)
	long(t, append(times(1<<11, gap(far)), text("a")), far)
	// An Off, far above 0 and below it.
	holds(t, list("a", off(gap(1), -far), "b"), 1, "a\nb")
	holds(t, list("a", off(begin, -far), 1, "b", off(gap(0), far), "c"), 1, "a\nb\nc")
	holds(t, list("a", off(begin, -far), 1, "b", off(begin, far), off(gap(0), 2), "c"), 1, "a\nb\n  c")
	holds(t, list("ab", off(col, -far), off(begin, far), 1, "c"), 1, "ab\n  c")
	holds(t, list("a", off(begin, far), off(gap(1), -far), "b"), 1, "a\nb")
	holds(t, list("a", off(begin, far), off(begin, -far), off(gap(1), 3), "b"), 1, "a\n   b")
	holds(t, list("a", off(begin, far), off(gap(1), far), "b"), 3, "a b")
	long(t, list("a", off(gap(1), far), "b"), 1)
	long(t, list("a", off(begin, far), 1, "b"), 1)
	long(t, list("a", off(col, far), off(gap(1), far)), 1)
	// Many of them: no sum is too great, or too small.
	n := 1 << 19
	up := slices.Concat(times(n, off(begin, far)), times(n-2, off(begin, -far)), list(1, "a"))
	long(t, up, 1)
	up[2*n-2] = off(gap(1), -far)
	long(t, up, 1)
	even := slices.Concat(times(n-1, off(begin, far)), times(n-1, off(begin, -far)), list(off(gap(1), 2), "a"))
	holds(t, even, 1, "\n  a")
	holds(t, slices.Concat(times(n-1, off(begin, -far)), times(n-1, off(begin, far)), list(off(gap(1), 2), "a")), 1, "\n  a")
	all := append([]api.Item{begin}, times(1<<20-1, gap(far))...)
	if z := Sizes(all); len(z) != 1<<20 || z[0] != (1<<20-1)*far || z[1] != far || z[1<<20-1] != far {
		t.Errorf("Sizes of %s: %d", few(all), z[:2])
	}
	long(t, all, far)
}

// P10.2: results of as many bytes as may be, and of one more.
func TestLong(t *testing.T) {
	n := api.MaxText
	x := strings.Repeat("x", n)
	for _, c := range []struct {
		l         []api.Item
		width     int
		want      string
		more      []api.Item
		moreWidth int
	}{
		// Texts.
		{list(x), 1, x, list(x + "y"), 1},
		{list(x[1:], "y"), 1, x[1:] + "y", list(x, "y"), far},
		{list("y", x[1:]), -1, "y" + x[1:], list("y", x), far},
		{times(n, text("x")), -1, x, times(n+1, text("x")), 1},
		// Characters of several bytes: bytes are counted, not columns.
		{list(x[2:], "\u00e9"), 1, x[2:] + "\u00e9", list(x[1:], "\u00e9"), n},
		{list(strings.Repeat("\u00e9", n/2)), 1, strings.Repeat("\u00e9", n/2), list(strings.Repeat("\u00e9", n/2) + "\xff"), n},
		{list(strings.Repeat("\U0001f600", n/4-1), 4), n/4 + 3, strings.Repeat("\U0001f600", n/4-1) + "    ", list(strings.Repeat("\U0001f600", n/4-1), 5), n/4 + 4},
		// Spaces.
		{list(x[1:], 1), n, x[1:] + " ", list(x[1:], 2), n + 1},
		{list(n), n, strings.Repeat(" ", n), list(n + 1), n + 1},
		{list(begin, n-2, 2, end), n, strings.Repeat(" ", n), list(begin, n-2, 3, end), n + 1},
		// Line ends, and indentations.
		{list(x[1:], 1), 1, x[1:] + "\n", list(x, 1), 1},
		{list(x[3:], off(gap(9), 2)), n, x[3:] + "\n  ", list(x[3:], off(gap(9), 3)), n},
		{list(off(gap(1), n-1)), 0, "\n" + strings.Repeat(" ", n-1), list(off(gap(1), n)), 0},
		{list(begin, off(whole, n-2), off(gap(1), 1)), 0, "\n" + strings.Repeat(" ", n-1), list(begin, off(whole, n-2), off(gap(1), 2)), 0},
		{times(n, gap(0)), -1, strings.Repeat("\n", n), times(n+1, gap(0)), -1},
		// What prints nothing may follow.
		{list(x, 0), n, x, list(x, 0), n - 1},
		{list(x, -1), n, x, list(x, -1), n - 1},
		{slices.Concat(list(x), times(n, begin), times(n, text("")), list(api.Item{Kind: 9, N: 9, Text: "x"}, end, 0, -1)), n, x, list(x, begin, api.Item{Kind: 9}, end, 1), 2 * n},
	} {
		holds(t, c.l, c.width, c.want)
		long(t, c.more, c.moreWidth)
	}
	// Far too many.
	long(t, list(strings.Repeat(x, 3)), far)
	long(t, list(x, x, begin, x, 1, x), 1)
	// What would be too long in one way of printing it may not be in the other.
	holds(t, list(x, off(gap(0), 9)), n, x)
	holds(t, list("a", 2*n, "b"), n, "a\nb")
	holds(t, list(off(begin, n), "a", 1, "b"), 3, "a b")
}

// short calls f with all lists of up to n items of some.
func short(some []api.Item, n int, f func(l []api.Item)) {
	var grow func(l []api.Item)
	grow = func(l []api.Item) {
		f(l)
		for i := 0; len(l) < n && i < len(some); i++ {
			grow(append(slices.Clone(l), some[i]))
		}
	}
	grow(nil)
}

// P10.1, P10.2: all short lists of some items.
func TestShort(t *testing.T) {
	stop := func(l []api.Item, widths ...int) {
		if !t.Failed() {
			check(t, l, widths...)
		}
	}
	short(list("a", 1, begin, end), 7, func(l []api.Item) { stop(l, 0, 2, 3) })
	short(list("\u00e9", off(gap(2), 1), off(gap(0), -1), off(whole, 1), off(col, -2), end), 5, func(l []api.Item) { stop(l, -1, 0, 1, 2, 3, 4, 6) })
	short(list("ab", 1, begin, off(whole, 2), end, api.Item{Kind: 9, N: 3, Text: "c"}), 5, func(l []api.Item) { stop(l, 0, 1, 2, 3, 4, 5, 7) })
	short(list(1, begin, end), 8, func(l []api.Item) { stop(l, 1, 2) })
}

// random is a list of items made at random.
func random(r *rand.Rand) []api.Item {
	some := []string{"", "a", "bc", "\u20ac", "d\u00e9\xff", "\U0001f600ef", "ghijk"}
	l := make([]api.Item, r.Intn(60))
	for i := range l {
		l[i] = api.Item{Kind: byte(1 + r.Intn(4)), Text: some[r.Intn(len(some))], N: r.Intn(6) - 2, Off: r.Intn(9) - 4, Col: r.Intn(3) == 0, Whole: r.Intn(3) == 0}
		if r.Intn(20) == 0 {
			l[i].Kind = byte(r.Intn(256))
		}
	}
	return l
}

// P10.1, P10.2: lists made at random.
func TestRandom(t *testing.T) {
	r := rand.New(rand.NewSource(10))
	for range 4000 {
		l := random(r)
		check(t, l, -1, 0, 1+r.Intn(5), 6+r.Intn(20), 26+r.Intn(40), 200)
		// Some item just fits, if it begins in column 0, or is a column too wide.
		for i := 0; i < len(l); i += 1 + r.Intn(9) {
			n := modelOf(l).size(i)
			check(t, l, n, n-1)
		}
		if t.Failed() {
			return
		}
	}
}

// P1: many items, within one another and one behind the other.
func TestMany(t *testing.T) {
	n := 1 << 20
	for _, it := range []api.Item{begin, end, text(""), gap(0), {}} {
		l := times(n, it)
		sizes(t, l, make([]int, n)...)
		holds(t, l, 0, "")
	}
	// Groups within one another, with and without their Ends.
	deep := slices.Concat(times(n/2-2, begin), list(2, "ab"), times(n/2-1, end), list("c"))
	want := slices.Repeat([]int{5}, n)
	want[n/2-1] = 2
	clear(want[n/2:])
	want[n-1] = 1
	sizes(t, deep[:n], want...)
	holds(t, deep, 5, "  abc")
	holds(t, deep, 4, "\nabc")
	open := slices.Concat(times(n-2, off(begin, 1)), list(1, "a"))
	holds(t, open, 2, " a")
	long(t, open, 1)
	// Breaks that all go on up to one behind them.
	var chain []api.Item
	for range n / 4 {
		chain = append(chain, begin, gap(0), end)
	}
	chain = append(chain, text("ab"), gap(1))
	want = make([]int, len(chain))
	for i := range want {
		if chain[i].Kind != api.End {
			want[i] = 2
		}
	}
	want[len(want)-1] = 1
	sizes(t, chain, want...)
	holds(t, chain, 3, "ab ")
	holds(t, chain, 2, "ab\n")
	long(t, chain, 1)
	// Many Breaks in one group.
	holds(t, append([]api.Item{begin}, times(n-1, gap(-1))...), 0, "")
	long(t, append([]api.Item{whole, text("a")}, times(n-2, gap(-1))...), 0)
}

// P1: nothing panics for numbers outside of what is specified.
func TestNoPanic(t *testing.T) {
	odd := []int{math.MinInt, math.MinInt + 1, -far - 1, 0, far + 1, math.MaxInt - 1, math.MaxInt}
	for _, n := range odd {
		for _, o := range odd {
			for _, w := range odd {
				l := list("a", off(gap(n), o), off(begin, o), "b", off(gap(n), n), off(col, n), "c", off(gap(1), o), off(whole, o), gap(n), end, off(gap(o), n), "d")
				Sizes(l)
				Lay(l, w)
			}
		}
	}
}

// P2: the same answer each time; arguments stay as they are, and no two answers share memory.
func TestSame(t *testing.T) {
	l := list("ab", 1, off(whole, 2), "c", 2, "d", end, "\u00e9", 1, "f", end, col, "g")[:9:10]
	all := slices.Clone(l[:10])
	z := Sizes(l)
	s, _ := Lay(l, 5)
	Lay(list("x", begin, begin, 1, far), far)
	clear(z)
	_ = append(z[:1], 9, 9, 9)
	sizes(t, l, 2, 6, 5, 1, 4, 1, 0, 1, 1)
	for range 3 {
		holds(t, l, 5, s)
		holds(t, l, 5, "ab\nc  d\u00e9\n")
	}
	if !slices.Equal(l[:10], all) {
		t.Errorf("the argument has changed: %v", l[:10])
	}
	// Items behind the list do not count.
	sizes(t, l[:4], 2, 2, 1, 1)
	holds(t, l[:4], 1, "ab\nc")
	// What was printed stays, whatever becomes of the items.
	clear(l)
	if s != "ab\nc  d\u00e9\n" {
		t.Errorf("an answer has changed: %q", s)
	}
}
