package piece

import (
	"bytes"
	"math"
	"slices"
	"strings"
	"testing"

	"platen/api"
)

// table returns a table with a text.
func table(t *testing.T, text string) *Table {
	t.Helper()
	x, e := New([]byte(text))
	if e != api.OK || x == nil {
		t.Fatalf("New: %v", e)
	}
	return x
}

// want holds a table against a text and a number of pieces.
func want(t *testing.T, x *Table, text string, pieces int) {
	t.Helper()
	if got := string(x.Bytes()); got != text {
		t.Errorf("Bytes: %.40q, not %.40q", got, text)
	}
	if x.Len() != len(text) {
		t.Errorf("Len: %d, not %d", x.Len(), len(text))
	}
	if x.Pieces() != pieces {
		t.Errorf("Pieces: %d, not %d (%.40q)", x.Pieces(), pieces, text)
	}
}

// insert and remove are Insert and Delete that must succeed.
func insert(t *testing.T, x *Table, at int, text string) {
	t.Helper()
	if e := x.Insert(at, []byte(text)); e != api.OK {
		t.Errorf("Insert(%d, %.40q): %v", at, text, e)
	}
}

func remove(t *testing.T, x *Table, at, n int) {
	t.Helper()
	if e := x.Delete(at, n); e != api.OK {
		t.Errorf("Delete(%d, %d): %v", at, n, e)
	}
}

// P2.1: New, with exactly MaxText bytes and one more.
func TestNew(t *testing.T) {
	want(t, table(t, ""), "", 0)
	want(t, table(t, "a"), "a", 1)
	want(t, table(t, "a\n\x00\xff"), "a\n\x00\xff", 1)
	full := strings.Repeat("x", api.MaxText)
	want(t, table(t, full), full, 1)
	if x, e := New([]byte(full + "x")); x != nil || e != api.ErrLong {
		t.Error(x, e)
	}
	if x, e := New(nil); x == nil || e != api.OK || x.Len() != 0 || x.Pieces() != 0 {
		t.Error(x, e)
	}
}

// P2.1, P2.2: an Insert at each place of a piece.
func TestInsert(t *testing.T) {
	for _, c := range []struct {
		at     int
		text   string
		pieces int
	}{{0, "xyabc", 2}, {1, "axybc", 3}, {2, "abxyc", 3}, {3, "abcxy", 2}} {
		x := table(t, "abc")
		insert(t, x, c.at, "xy")
		want(t, x, c.text, c.pieces)
	}
	x := table(t, "")
	insert(t, x, 0, "x")
	want(t, x, "x", 1)
}

// P2.1: errors of Insert, which change nothing, and their order.
func TestInsertErrors(t *testing.T) {
	x := table(t, "abc")
	insert(t, x, 1, "x")
	long := make([]byte, api.MaxText)
	for _, at := range []int{math.MinInt, -1, 5, math.MaxInt} {
		for _, p := range [][]byte{nil, []byte("q"), long} {
			if e := x.Insert(at, p); e != api.ErrArg {
				t.Errorf("Insert(%d, %d bytes): %v", at, len(p), e)
			}
		}
	}
	for _, at := range []int{0, 1, 2, 3, 4} {
		if e := x.Insert(at, long); e != api.ErrLong {
			t.Errorf("Insert(%d, too much): %v", at, e)
		}
	}
	want(t, x, "axbc", 3)
	insert(t, x, 2, "y")
	want(t, x, "axybc", 3)
}

// P2.1: exactly MaxText bytes may be reached, not one more.
func TestInsertUpToLimit(t *testing.T) {
	x := table(t, "abc")
	much := strings.Repeat("x", api.MaxText-3)
	if e := x.Insert(1, []byte(much+"x")); e != api.ErrLong {
		t.Error(e)
	}
	want(t, x, "abc", 1)
	insert(t, x, 1, much)
	want(t, x, "a"+much+"bc", 3)
	for _, at := range []int{0, 1, 9, api.MaxText} {
		if e := x.Insert(at, []byte("y")); e != api.ErrLong {
			t.Error(at, e)
		}
		insert(t, x, at, "")
	}
	want(t, x, "a"+much+"bc", 3)
	remove(t, x, 0, 1)
	insert(t, x, api.MaxText-1, "y")
	want(t, x, much+"bcy", 3)
	if e := x.Insert(0, []byte("y")); e != api.ErrLong {
		t.Error(e)
	}
}

// P2.1: an Insert of nothing splits no piece, and makes none; the last inserted byte stays the last one.
func TestInsertNothing(t *testing.T) {
	x := table(t, "abc")
	insert(t, x, 1, "xy")
	for at := range 6 {
		insert(t, x, at, "")
		if e := x.Insert(at, nil); e != api.OK {
			t.Error(at, e)
		}
	}
	want(t, x, "axybc", 3)
	insert(t, x, 3, "z")
	want(t, x, "axyzbc", 3)
	y := table(t, "")
	insert(t, y, 0, "")
	want(t, y, "", 0)
}

// P2.1: errors of Delete, which change nothing.
func TestDeleteErrors(t *testing.T) {
	x := table(t, "abcd")
	for _, c := range []struct{ at, n int }{
		{-1, 0}, {-1, 2}, {5, 0}, {5, -1}, {0, -1}, {2, -1}, {4, 1}, {2, 3}, {0, 5},
		{math.MinInt, 0}, {math.MaxInt, 0}, {1, math.MinInt}, {1, math.MaxInt}, {math.MaxInt, math.MaxInt}, {math.MinInt, math.MinInt},
	} {
		if e := x.Delete(c.at, c.n); e != api.ErrArg {
			t.Errorf("Delete(%d, %d): %v", c.at, c.n, e)
		}
		if p, ok := x.Slice(c.at, c.n); ok || len(p) != 0 {
			t.Errorf("Slice(%d, %d): %q, %v", c.at, c.n, p, ok)
		}
	}
	want(t, x, "abcd", 1)
}

// P2.1, P2.2: a Delete of each part of three pieces.
func TestDelete(t *testing.T) {
	whole := "abxyzcd"
	for at := range len(whole) + 1 {
		for n := range len(whole) - at + 1 {
			x := table(t, "abcd")
			insert(t, x, 2, "xyz")
			remove(t, x, at, n)
			pieces := 0
			for _, c := range []struct{ from, to int }{{0, 2}, {2, 5}, {5, 7}} {
				if min(at, c.to) > c.from { // something of it is left before
					pieces++
				}
				if max(at+n, c.from) < c.to { // and after
					pieces++
				}
			}
			want(t, x, whole[:at]+whole[at+n:], pieces)
		}
	}
}

// P2.2: a Delete of 0 bytes splits the piece within which it is, and no other one.
func TestDeleteNothing(t *testing.T) {
	x := table(t, "abc")
	remove(t, x, 0, 0)
	remove(t, x, 3, 0)
	want(t, x, "abc", 1)
	remove(t, x, 1, 0)
	want(t, x, "abc", 2)
	remove(t, x, 1, 0)
	want(t, x, "abc", 2)
	remove(t, x, 2, 0)
	want(t, x, "abc", 3)
	y := table(t, "")
	remove(t, y, 0, 0)
	want(t, y, "", 0)
}

// P2.2: an Insert directly after the last inserted byte extends its piece.
func TestExtend(t *testing.T) {
	x := table(t, "abc")
	insert(t, x, 3, "x") // after the piece of New, which isn't of inserted bytes
	want(t, x, "abcx", 2)
	insert(t, x, 4, "yz")
	want(t, x, "abcxyz", 2)
	insert(t, x, 3, "w") // before it
	want(t, x, "abcwxyz", 3)
	insert(t, x, 7, "v") // after one that is no longer the last one
	want(t, x, "abcwxyzv", 4)
	insert(t, x, 8, "u")
	want(t, x, "abcwxyzvu", 4)
	insert(t, x, 4, "t") // after w, which isn't the last one either
	want(t, x, "abcwtxyzvu", 5)
}

// P2.2: an equal byte at the end of a piece isn't the last inserted one.
func TestExtendByWhichByte(t *testing.T) {
	x := table(t, "")
	insert(t, x, 0, "x")
	insert(t, x, 0, "x")
	want(t, x, "xx", 2)
	insert(t, x, 2, "x")
	want(t, x, "xxx", 3)
}

// P2.2: once the last inserted byte is deleted, there is nothing to extend, until there is another one.
func TestNoExtendAfterDelete(t *testing.T) {
	x := table(t, "ab")
	insert(t, x, 1, "xyz")
	remove(t, x, 3, 1)
	want(t, x, "axyb", 3)
	insert(t, x, 3, "w")
	want(t, x, "axywb", 4)
	insert(t, x, 4, "v")
	want(t, x, "axywvb", 4)
	remove(t, x, 0, 6)
	want(t, x, "", 0)
	insert(t, x, 0, "u")
	want(t, x, "u", 1)
}

// P2.2: of a piece that was split the part with the last inserted byte is extended, and the parts remain apart.
func TestExtendAfterSplit(t *testing.T) {
	x := table(t, "ab")
	insert(t, x, 1, "xyz")
	remove(t, x, 2, 0)
	want(t, x, "axyzb", 4)
	insert(t, x, 4, "w")
	want(t, x, "axyzwb", 4)
	remove(t, x, 1, 1)
	want(t, x, "ayzwb", 3)
	insert(t, x, 4, "v")
	want(t, x, "ayzwvb", 3)
	insert(t, x, 2, "u") // within it
	want(t, x, "ayuzwvb", 5)
	remove(t, x, 2, 1)
	want(t, x, "ayzwvb", 4)
	insert(t, x, 5, "t") // u was the last one, not v
	want(t, x, "ayzwvtb", 5)
}

// P2.2: a piece that was extended is one piece, which a Delete splits wherever it is.
func TestSplitExtended(t *testing.T) {
	x := table(t, "")
	insert(t, x, 0, "ab")
	insert(t, x, 2, "cd")
	want(t, x, "abcd", 1)
	remove(t, x, 1, 2)
	want(t, x, "ad", 2)
	insert(t, x, 2, "e")
	want(t, x, "ade", 2)
}

// P2.1: each slice of several pieces.
func TestSlice(t *testing.T) {
	x := table(t, "abcd")
	insert(t, x, 2, "xyz")
	insert(t, x, 0, "w")
	whole := "wabxyzcd"
	for at := range len(whole) + 1 {
		for n := range len(whole) - at + 1 {
			if p, ok := x.Slice(at, n); !ok || string(p) != whole[at:at+n] {
				t.Errorf("Slice(%d, %d): %q, %v", at, n, p, ok)
			}
		}
	}
	want(t, x, whole, 4)
}

// What a nil *Table returns.
func TestNil(t *testing.T) {
	var x *Table
	if x.Len() != 0 || x.Pieces() != 0 || len(x.Bytes()) != 0 {
		t.Error("Len, Pieces, Bytes")
	}
	for _, at := range []int{-1, 0, 1} {
		for _, n := range []int{-1, 0, 1} {
			if e := x.Delete(at, n); e != api.ErrArg {
				t.Errorf("Delete(%d, %d): %v", at, n, e)
			}
			if p, ok := x.Slice(at, n); len(p) != 0 || ok != (at == 0 && n == 0) {
				t.Errorf("Slice(%d, %d): %q, %v", at, n, p, ok)
			}
		}
		for _, p := range [][]byte{nil, []byte("a"), make([]byte, api.MaxText+1)} {
			if e := x.Insert(at, p); e != api.ErrArg {
				t.Errorf("Insert(%d, %d bytes): %v", at, len(p), e)
			}
		}
	}
}

// P2: what a caller writes over afterwards has no effect on the table, and the table none on that.
func TestMemory(t *testing.T) {
	p := []byte("abc")
	x, _ := New(p)
	copy(p, "???")
	q := append(make([]byte, 0, 64), "xy"...)
	if x.Insert(1, q) != api.OK {
		t.Fatal("Insert")
	}
	copy(q, "??")
	q = append(q[:0], "z"...)
	if x.Insert(3, q) != api.OK { // extends the piece
		t.Fatal("Insert")
	}
	q[0] = '?'
	if got := string(q[:2]); got != "??" {
		t.Errorf("an argument was changed: %q", got)
	}
	want(t, x, "axyzbc", 3)
	all := x.Bytes()
	some, _ := x.Slice(1, 3)
	insert(t, x, 4, "w")
	remove(t, x, 0, 2)
	if string(all) != "axyzbc" || string(some) != "xyz" {
		t.Errorf("results were changed: %q, %q", all, some)
	}
	for _, r := range [][]byte{all, some, x.Bytes()} {
		for i := range r {
			r[i] = '?'
		}
		_ = append(r, "????????"...)
	}
	want(t, x, "yzwbc", 2)
}

// P2: slices of a table that is appended to later, and of their own, don't meet.
func TestResultsApart(t *testing.T) {
	x := table(t, "abcdef")
	a, _ := x.Slice(0, 3)
	b, _ := x.Slice(3, 3)
	_ = append(a, "???"...)
	if string(b) != "def" {
		t.Errorf("%q", b)
	}
	want(t, x, "abcdef", 1)
}

// cell is a byte of a text, with its number among the inserted ones (0: of New), and whether a piece begins with it.
type cell struct {
	c     byte
	id    int
	first bool
}

// model is P2.1 and P2.2 byte by byte.
type model struct {
	cells []cell
	added int
}

func newModel(p []byte) *model {
	m := &model{}
	for i, c := range p {
		m.cells = append(m.cells, cell{c: c, first: i == 0})
	}
	return m
}

func (m *model) insert(at int, p []byte) api.Errno {
	if at < 0 || at > len(m.cells) {
		return api.ErrArg
	}
	if len(m.cells)+len(p) > api.MaxText {
		return api.ErrLong
	}
	if len(p) == 0 {
		return api.OK
	}
	extends := at > 0 && m.added > 0 && m.cells[at-1].id == m.added
	if at < len(m.cells) {
		m.cells[at].first = true
	}
	var l []cell
	for i, c := range p {
		m.added++
		l = append(l, cell{c, m.added, i == 0 && !extends})
	}
	m.cells = slices.Insert(m.cells, at, l...)
	return api.OK
}

func (m *model) remove(at, n int) api.Errno {
	if at < 0 || at > len(m.cells) || n < 0 || n > len(m.cells)-at {
		return api.ErrArg
	}
	for _, k := range []int{at, at + n} {
		if k < len(m.cells) {
			m.cells[k].first = true
		}
	}
	m.cells = slices.Delete(m.cells, at, at+n)
	return api.OK
}

func (m *model) text() []byte {
	var p []byte
	for _, x := range m.cells {
		p = append(p, x.c)
	}
	return p
}

func (m *model) pieces() int {
	n := 0
	for _, x := range m.cells {
		if x.first {
			n++
		}
	}
	return n
}

// step does one change to both, and holds their errors against each other.
func step(t *testing.T, x *Table, m *model, ins bool, at, n int, p []byte) {
	t.Helper()
	if ins {
		if a, b := x.Insert(at, p), m.insert(at, p); a != b {
			t.Fatalf("Insert(%d, %d bytes): %v, not %v", at, len(p), a, b)
		}
		return
	}
	if a, b := x.Delete(at, n), m.remove(at, n); a != b {
		t.Fatalf("Delete(%d, %d): %v, not %v", at, n, a, b)
	}
}

// P2.1, P2.2: long runs of changes, right and wrong ones, leave what the model leaves; and the same changes leave the same (P2).
func TestAgainstModel(t *testing.T) {
	for seed := range uint32(200) {
		next := seed*2654435761 + 1
		pick := func(n int) int {
			next = next*1664525 + 1013904223
			return int(next>>8) % n
		}
		start := []byte("abcdefghij")[:pick(11)]
		x, m := table(t, string(start)), newModel(start)
		y := table(t, string(start))
		last := 0
		for range 300 {
			ins, at, n := pick(5) < 3, pick(len(m.cells)+3)-1, pick(6)-1
			p := []byte("klmnopqrst")[:pick(5)]
			if ins && pick(2) == 0 {
				at = last // often directly after the last inserted byte
			}
			step(t, x, m, ins, at, n, p)
			if ins {
				y.Insert(at, append(make([]byte, 0, 99), p...))
				last = at + len(p)
			} else {
				y.Delete(at, n)
			}
			want(t, x, string(m.text()), m.pieces())
			if y.Pieces() != x.Pieces() || !bytes.Equal(y.Bytes(), x.Bytes()) {
				t.Fatal("the same calls, another result")
			}
		}
		if t.Failed() {
			t.Fatal("seed", seed)
		}
	}
}

// eachChange calls f with each change of a text of n bytes, by up to one inserted byte.
func eachChange(n int, f func(ins bool, at, n int, p []byte)) {
	for at := range n + 1 {
		f(true, at, 0, []byte("x"))
		for k := range n - at + 1 {
			f(false, at, k, nil)
		}
	}
}

// P2.2: all runs of three changes to a short text.
func TestAllShortRuns(t *testing.T) {
	eachChange(3, func(i1 bool, a1, n1 int, p1 []byte) {
		eachChange(4, func(i2 bool, a2, n2 int, p2 []byte) {
			eachChange(4, func(i3 bool, a3, n3 int, p3 []byte) {
				x, m := table(t, "abc"), newModel([]byte("abc"))
				step(t, x, m, i1, a1, n1, p1)
				step(t, x, m, i2, a2, n2, p2)
				step(t, x, m, i3, a3, n3, p3)
				want(t, x, string(m.text()), m.pieces())
			})
		})
	})
}

// P1, P2.2: a text of the greatest size may be all pieces of one byte.
func TestManyPieces(t *testing.T) {
	x := table(t, strings.Repeat("x", api.MaxText))
	for at := range 4096 {
		remove(t, x, at*16, 0)
	}
	if x.Pieces() != 4096 || x.Len() != api.MaxText {
		t.Error(x.Pieces(), x.Len())
	}
	remove(t, x, 8, api.MaxText-16)
	want(t, x, strings.Repeat("x", 16), 2)
}
