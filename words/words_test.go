package words

import (
	"bytes"
	"math"
	"slices"
	"strings"
	"testing"
	"unicode/utf8"

	"platen/api"
)

// wordBytes are all bytes below 80 (base 16) of the class Word.
const wordBytes = "abcdefghijklmnopqrstuvwxyzABCDEFGHIJKLMNOPQRSTUVWXYZ0123456789_"

// classOf is Class, told by lists.
func classOf(c byte) byte {
	switch {
	case c == 0x20 || c == 0x09:
		return Blank
	case c == 0x0a:
		return Line
	case c >= 0x80 || strings.IndexByte(wordBytes, c) >= 0:
		return Word
	}
	return Other
}

// P5.1: the classes are numbered from 0 on.
func TestNumbers(t *testing.T) {
	if Blank != 0 || Line != 1 || Word != 2 || Other != 3 {
		t.Error(Blank, Line, Word, Other)
	}
}

// P5.1: the class of each byte.
func TestClass(t *testing.T) {
	var count [4]int
	for i := range 256 {
		got := Class(byte(i))
		if want := classOf(byte(i)); got != want {
			t.Errorf("Class(%#x) = %d, not %d", i, got, want)
			continue
		}
		count[got]++
	}
	if count != [4]int{2, 1, 63 + 128, 256 - 3 - 63 - 128} {
		t.Error(count)
	}
}

// P5.1: bytes that are close to those of another class.
func TestClassEdges(t *testing.T) {
	for class, bytes := range map[byte]string{
		Blank: " \t",
		Line:  "\n",
		Word:  "azAZ09_\x80\xc3\xff",
		Other: "\x00\b\v\f\r\x1f!/:@[^`{~\x7f-",
	} {
		for i := range len(bytes) {
			if got := Class(bytes[i]); got != class {
				t.Errorf("Class(%#x) = %d, not %d", bytes[i], got, class)
			}
		}
	}
}

// P5.1: runs and solid sequences, by what they hold.
func TestSequences(t *testing.T) {
	for _, c := range []struct {
		text        string
		runs, solid []string
	}{
		{"", nil, nil},
		{"ab -", []string{"ab", " ", "-"}, []string{"ab", "-"}},
		{"a", []string{"a"}, []string{"a"}},
		{"-", []string{"-"}, []string{"-"}},
		{" ", []string{" "}, nil},
		{"\n", []string{"\n"}, nil},
		{" \t\t ", []string{" \t\t "}, nil},
		{"\n\n\n", []string{"\n\n\n"}, nil},
		{" \n\n\t\n", []string{" ", "\n\n", "\t", "\n"}, nil},
		{"a-b_1", []string{"a", "-", "b_1"}, []string{"a-b_1"}},
		{"--a--", []string{"--", "a", "--"}, []string{"--a--"}},
		{"a\tb", []string{"a", "\t", "b"}, []string{"a", "b"}},
		{"a\nb", []string{"a", "\n", "b"}, []string{"a", "b"}},
		{" a-\n+b ", []string{" ", "a", "-", "\n", "+", "b", " "}, []string{"a-", "+b"}},
		{"a\r\n", []string{"a", "\r", "\n"}, []string{"a\r"}},
		{"\u00e9a\u20ac1", []string{"\u00e9a\u20ac1"}, []string{"\u00e9a\u20ac1"}},
		{"\xff-\x80 \xe2\x82", []string{"\xff", "-", "\x80", " ", "\xe2\x82"}, []string{"\xff-\x80", "\xe2\x82"}},
		{"\u00a0\u2003", []string{"\u00a0\u2003"}, []string{"\u00a0\u2003"}},
	} {
		p := []byte(c.text)
		if got := parts(t, p, Runs(p)); !slices.Equal(got, c.runs) {
			t.Errorf("Runs(%q) = %q, not %q", p, got, c.runs)
		}
		if got := parts(t, p, Solid(p)); !slices.Equal(got, c.solid) {
			t.Errorf("Solid(%q) = %q, not %q", p, got, c.solid)
		}
	}
}

// parts returns what spans hold, which must be in order and within the text.
func parts(t *testing.T, p []byte, spans []api.Span) []string {
	t.Helper()
	var out []string
	end := 0
	for _, s := range spans {
		if s.At < end || s.N < 1 || s.N > len(p)-s.At {
			t.Fatalf("%q: %v", p, spans)
		}
		end = s.At + s.N
		out = append(out, string(p[s.At:end]))
	}
	return out
}

// found is where a call leads, and whether it does.
type found struct {
	at int
	ok bool
}

// none is what a call returns that leads nowhere.
var none = found{0, false}

// checkAt holds P5.2 for a text and an offset.
func checkAt(t *testing.T, p []byte, at int, forward, back, last found) {
	t.Helper()
	if k, ok := Forward(p, at); (found{k, ok}) != forward {
		t.Errorf("Forward(%q, %d) = %d, %v, not %v", p, at, k, ok, forward)
	}
	if k, ok := Back(p, at); (found{k, ok}) != back {
		t.Errorf("Back(%q, %d) = %d, %v, not %v", p, at, k, ok, back)
	}
	if k, ok := Last(p, at); (found{k, ok}) != last {
		t.Errorf("Last(%q, %d) = %d, %v, not %v", p, at, k, ok, last)
	}
}

// yes is a call that leads to an offset.
func yes(at int) found { return found{at, true} }

// P5.2: the edges that the chapter names.
func TestWords(t *testing.T) {
	for _, c := range []struct {
		text                string
		at                  int
		forward, back, last found
	}{
		{"", -1, none, none, none},
		{"", 0, none, none, none},
		{"", 1, none, none, none},
		// An offset below the text, at each of its bytes, at its end and above it.
		{"ab cd", -1, none, none, yes(1)},
		{"ab cd", 0, yes(3), none, yes(1)},
		{"ab cd", 1, yes(3), yes(0), yes(4)},
		{"ab cd", 2, yes(3), yes(0), yes(4)},
		{"ab cd", 3, yes(5), yes(0), yes(4)},
		{"ab cd", 4, yes(5), yes(3), none},
		{"ab cd", 5, none, yes(3), none},
		{"ab cd", 6, none, none, none},
		// A word of one character begins and ends at once.
		{"a", -1, none, none, yes(0)},
		{"a", 0, yes(1), none, none},
		{"a", 1, none, yes(0), none},
		// Words of both classes, side by side.
		{"a-b", 0, yes(1), none, yes(1)},
		{"a-b", 1, yes(2), yes(0), yes(2)},
		{"a-b", 2, yes(3), yes(1), none},
		{"a-b", 3, none, yes(2), none},
		// Blanks and line ends alone: no word behind, and none before.
		{" \t\n\n ", -1, none, none, none},
		{" \t\n\n ", 0, yes(5), none, none},
		{" \t\n\n ", 2, yes(5), yes(0), none},
		{" \t\n\n ", 4, yes(5), yes(0), none},
		{" \t\n\n ", 5, none, yes(0), none},
		// The first word isn't at 0: Back leads to 0 all the same.
		{"  a", 2, yes(3), yes(0), none},
		{"  a", 1, yes(2), yes(0), yes(2)},
		{"  a", 3, none, yes(2), none},
		{"a \n", 0, yes(3), none, none},
		{"a \n", 3, none, yes(0), none},
		// Last characters of several bytes; an offset within one of them is after its beginning.
		{"x\u20ac y\u00e9", -1, none, none, yes(1)},
		{"x\u20ac y\u00e9", 0, yes(5), none, yes(1)},
		{"x\u20ac y\u00e9", 1, yes(5), yes(0), yes(6)},
		{"x\u20ac y\u00e9", 2, yes(5), yes(0), yes(6)},
		{"x\u20ac y\u00e9", 3, yes(5), yes(0), yes(6)},
		{"x\u20ac y\u00e9", 6, yes(8), yes(5), none},
		{"x\u20ac y\u00e9", 7, yes(8), yes(5), none},
		{"x\u20ac y\u00e9", 8, none, yes(5), none},
		{"\U0001f600-", -1, none, none, yes(0)},
		{"\U0001f600-", 0, yes(4), none, yes(4)},
		{"\U0001f600-", 4, yes(5), yes(0), none},
		// Bytes that are no UTF-8: each is a character.
		{"a\xe2\x82 b", 0, yes(4), none, yes(2)},
		{"a\xe2\x82 b", 1, yes(4), yes(0), yes(2)},
		{"a\xe2\x82 b", 2, yes(4), yes(0), yes(4)},
		{"\xff\xff", -1, none, none, yes(1)},
		{"\xff\xff", 0, yes(2), none, yes(1)},
		{"\u00e9\x80.", 0, yes(3), none, yes(2)},
	} {
		checkAt(t, []byte(c.text), c.at, c.forward, c.back, c.last)
	}
}

// modelRuns is Runs, by a list of classes that grows.
func modelRuns(p []byte) []api.Span {
	var runs []api.Span
	for i, c := range p {
		if i == 0 || classOf(c) != classOf(p[i-1]) {
			runs = append(runs, api.Span{At: i})
		}
		runs[len(runs)-1].N++
	}
	return runs
}

// modelSolid is Solid, by the bytes that part its sequences.
func modelSolid(p []byte) []api.Span {
	var solid []api.Span
	marked := markSpaces(p)
	at := 0
	for _, s := range bytes.Fields(marked) {
		at += bytes.Index(marked[at:], s)
		solid = append(solid, api.Span{At: at, N: len(s)})
		at += len(s)
	}
	return solid
}

// markSpaces returns p with a space for each blank and line end, and an x for each other byte.
func markSpaces(p []byte) []byte {
	out := bytes.Repeat([]byte("x"), len(p))
	for i, c := range p {
		if c == ' ' || c == '\t' || c == '\n' {
			out[i] = ' '
		}
	}
	return out
}

// model holds where the words of a text begin, and their last characters.
type model struct {
	size          int
	begins, lasts []int
}

func modelOf(p []byte) model {
	m := model{size: len(p)}
	for _, r := range modelRuns(p) {
		if c := classOf(p[r.At]); c == Blank || c == Line {
			continue
		}
		_, n := utf8.DecodeLastRune(p[r.At : r.At+r.N])
		m.begins = append(m.begins, r.At)
		m.lasts = append(m.lasts, r.At+r.N-n)
	}
	return m
}

func (m model) forward(at int) found {
	if at < 0 || at >= m.size {
		return none
	}
	for _, k := range m.begins {
		if k > at {
			return yes(k)
		}
	}
	return yes(m.size)
}

func (m model) back(at int) found {
	if at <= 0 || at > m.size {
		return none
	}
	to := 0
	for _, k := range m.begins {
		if k < at {
			to = k
		}
	}
	return yes(to)
}

func (m model) last(at int) found {
	for _, k := range m.lasts {
		if k > at {
			return yes(k)
		}
	}
	return none
}

// checkText holds P5.1 and P5.2 for a text, at the given offsets and all those of the text.
func checkText(t *testing.T, p []byte, more ...int) {
	t.Helper()
	if got, want := Runs(p), modelRuns(p); !slices.Equal(got, want) {
		t.Errorf("Runs(%q) = %v, not %v", p, got, want)
	}
	if got, want := Solid(p), modelSolid(p); !slices.Equal(got, want) {
		t.Errorf("Solid(%q) = %v, not %v", p, got, want)
	}
	m := modelOf(p)
	for i := range len(p) + 5 {
		at := i - 2
		checkAt(t, p, at, m.forward(at), m.back(at), m.last(at))
	}
	for _, at := range more {
		checkAt(t, p, at, m.forward(at), m.back(at), m.last(at))
	}
}

// eachText calls f with all texts of up to n parts.
func eachText(parts []string, n int, f func(p []byte)) {
	var grow func(p []byte, left int)
	grow = func(p []byte, left int) {
		f(p)
		if left == 0 {
			return
		}
		for _, s := range parts {
			grow(append(bytes.Clone(p), s...), left-1)
		}
	}
	grow(nil, n)
}

// P1, P5.1, P5.2: all short texts of bytes of every kind, at every offset, held against a model.
func TestAllShort(t *testing.T) {
	all := func(p []byte) { checkText(t, p) }
	eachText([]string{" ", "\t", "\n", "a", "-"}, 6, all)
	eachText([]string{" ", "a", "\xc3", "\xa9", "\xe2", "\x82", "\xac"}, 5, all)
	eachText([]string{"\n", "_", "+", "\u20ac", "\U0001f600", "\xff"}, 5, all)
	for i := range 256 {
		for k := range 256 {
			checkText(t, []byte{byte(i), byte(k)})
		}
	}
}

// P1: offsets as far away as they can be.
func TestFarOffsets(t *testing.T) {
	for _, s := range []string{"", "a", " ", "\n", "ab - \u20ac", " \t\n", "\xff"} {
		checkText(t, []byte(s), math.MinInt, math.MinInt+1, math.MinInt+2, math.MinInt32, -99,
			99, math.MaxInt32, math.MaxInt-2, math.MaxInt-1, math.MaxInt)
	}
}

// P1: nil and empty texts are the same.
func TestEmpty(t *testing.T) {
	for _, p := range [][]byte{nil, {}} {
		if len(Runs(p)) != 0 || len(Solid(p)) != 0 {
			t.Error("an empty text has sequences")
		}
		for at := -2; at <= 2; at++ {
			checkAt(t, p, at, none, none, none)
		}
	}
}

// P1: texts as long as they can be, of one run and of as many as there are bytes.
func TestLong(t *testing.T) {
	for _, s := range []string{"a", " ", "\n", "-", "a-", "a ", "\u20ac", "\xff"} {
		p := []byte(strings.Repeat(s, api.MaxText/len(s)))
		m := modelOf(p)
		if !slices.Equal(Runs(p), modelRuns(p)) || !slices.Equal(Solid(p), modelSolid(p)) {
			t.Errorf("sequences of many %q", s)
		}
		for _, at := range []int{-1, 0, 1, len(p) / 2, len(p) - 4, len(p) - 1, len(p), len(p) + 1} {
			if k, ok := Forward(p, at); (found{k, ok}) != m.forward(at) {
				t.Errorf("Forward in many %q from %d: %d, %v", s, at, k, ok)
			}
			if k, ok := Back(p, at); (found{k, ok}) != m.back(at) {
				t.Errorf("Back in many %q from %d: %d, %v", s, at, k, ok)
			}
			if k, ok := Last(p, at); (found{k, ok}) != m.last(at) {
				t.Errorf("Last in many %q from %d: %d, %v", s, at, k, ok)
			}
		}
	}
}

// P2: arguments stay as they are, what was returned is the caller's own, and what is behind a text's end isn't looked at.
func TestApart(t *testing.T) {
	text := "ab -\u20ac\n\tc"
	p := []byte(text)
	runs, solid := Runs(p), Solid(p)
	wantRuns, wantSolid := slices.Clone(runs), slices.Clone(solid)
	for i := range runs {
		runs[i] = api.Span{At: -1, N: -1}
	}
	for i := range solid {
		solid[i] = api.Span{At: -1, N: -1}
	}
	if !slices.Equal(Runs(p), wantRuns) || !slices.Equal(Solid(p), wantSolid) {
		t.Error("what was returned is kept")
	}
	checkText(t, p)
	if string(p) != text {
		t.Errorf("the text became %q", p)
	}
	for n := range len(text) + 1 {
		checkText(t, []byte(text)[:n])
		checkText(t, []byte(text)[n:])
	}
}
