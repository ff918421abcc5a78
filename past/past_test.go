package past

import (
	"math"
	"slices"
	"strings"
	"testing"

	"platen/api"
	"platen/piece"
)

// history returns a table with a text, and its history.
func history(t *testing.T, text string) (*piece.Table, *Past) {
	t.Helper()
	x, e := piece.New([]byte(text))
	if e != api.OK {
		t.Fatalf("piece.New: %v", e)
	}
	h := New(x)
	if h == nil {
		t.Fatal("New: nil")
	}
	return x, h
}

// want holds a table and its history against a text and a depth.
func want(t *testing.T, x *piece.Table, h *Past, text string, done, undone int) {
	t.Helper()
	if got := string(x.Bytes()); got != text {
		t.Errorf("the text is %.60q, not %.60q", got, text)
	}
	if a, b := h.Depth(); a != done || b != undone {
		t.Errorf("Depth: %d, %d, not %d, %d", a, b, done, undone)
	}
}

// do is a Do that must succeed.
func do(t *testing.T, h *Past, at int, was, is string) {
	t.Helper()
	if e := h.Do(api.Edit{At: at, Old: was, New: is}); e != api.OK {
		t.Errorf("Do(%d, %.40q, %.40q): %v", at, was, is, e)
	}
}

// undo and redo are Undo and Redo that must succeed, with these edits.
func undo(t *testing.T, h *Past, edits ...api.Edit) {
	t.Helper()
	if l, e := h.Undo(); e != api.OK || !slices.Equal(l, edits) {
		t.Errorf("Undo: %.200v, %v, not %.200v", l, e, edits)
	}
}

func redo(t *testing.T, h *Past, edits ...api.Edit) {
	t.Helper()
	if l, e := h.Redo(); e != api.OK || !slices.Equal(l, edits) {
		t.Errorf("Redo: %.200v, %v, not %.200v", l, e, edits)
	}
}

// noUndo and noRedo hold that there is nothing to undo, or to redo.
func noUndo(t *testing.T, h *Past) {
	t.Helper()
	if l, e := h.Undo(); e != api.ErrUndo || len(l) != 0 {
		t.Errorf("Undo: %v, %v", l, e)
	}
}

func noRedo(t *testing.T, h *Past) {
	t.Helper()
	if l, e := h.Redo(); e != api.ErrUndo || len(l) != 0 {
		t.Errorf("Redo: %v, %v", l, e)
	}
}

// P4.1: offsets before, within, at both ends of and after what an edit replaces.
func TestMove(t *testing.T) {
	const far = 1 << 32
	for _, c := range []struct {
		at   int
		e    api.Edit
		want int
	}{
		{1, api.Edit{At: 2, New: "xyz"}, 1},
		{2, api.Edit{At: 2, New: "xyz"}, 5},
		{5, api.Edit{At: 2, New: "xyz"}, 8},
		{1, api.Edit{At: 2, Old: "xyz"}, 1},
		{2, api.Edit{At: 2, Old: "xyz"}, 2},
		{3, api.Edit{At: 2, Old: "xyz"}, 2},
		{4, api.Edit{At: 2, Old: "xyz"}, 2},
		{5, api.Edit{At: 2, Old: "xyz"}, 2},
		{6, api.Edit{At: 2, Old: "xyz"}, 3},
		{2, api.Edit{At: 2, Old: "ab", New: "x"}, 2},
		{3, api.Edit{At: 2, Old: "ab", New: "x"}, 2},
		{4, api.Edit{At: 2, Old: "ab", New: "x"}, 3},
		{3, api.Edit{At: 2, Old: "ab", New: "vwxyz"}, 2},
		{4, api.Edit{At: 2, Old: "ab", New: "vwxyz"}, 7},
		{3, api.Edit{At: 2, Old: "ab", New: "cd"}, 2}, // within, also if nothing grows
		{3, api.Edit{At: 2, Old: "ab", New: "ab"}, 2}, // and also if nothing changes
		{4, api.Edit{At: 2, Old: "ab", New: "ab"}, 4},
		{0, api.Edit{}, 0},
		{7, api.Edit{}, 7},
		{-7, api.Edit{}, -7},
		{2, api.Edit{At: 2, New: "\u20ac\xff\x00"}, 7}, // bytes, not characters
		{-3, api.Edit{At: -2, Old: "ab", New: "x"}, -3},
		{-2, api.Edit{At: -2, Old: "ab", New: "x"}, -2},
		{-1, api.Edit{At: -2, Old: "ab", New: "x"}, -2},
		{0, api.Edit{At: -2, Old: "ab", New: "x"}, -1},
		{far, api.Edit{At: far, New: "xyz"}, far + 3},
		{far, api.Edit{At: far - 1, Old: "ab", New: "xyz"}, far - 1},
		{far, api.Edit{At: -far, Old: "ab", New: "xyz"}, far + 1},
		{-far, api.Edit{At: far, Old: "ab", New: "xyz"}, -far},
		{-far, api.Edit{At: -far, Old: "ab", New: "xyz"}, -far},
		{-far, api.Edit{At: -far, New: "xyz"}, -far + 3},
		{-far + 2, api.Edit{At: -far, Old: "ab"}, -far},
	} {
		if k := Move(c.at, c.e); k != c.want {
			t.Errorf("Move(%d, %v) = %d, not %d", c.at, c.e, k, c.want)
		}
	}
}

// P4.1: what isn't replaced stays with its byte.
func TestMoveWithBytes(t *testing.T) {
	const text = "0123456789"
	for at := range len(text) + 1 {
		for n := range len(text) - at + 1 {
			for _, is := range []string{"", "x", "xy", "vwxyz"} {
				e := api.Edit{At: at, Old: text[at : at+n], New: is}
				after := text[:at] + is + text[at+n:]
				for k := range len(text) {
					to := Move(k, e)
					if k >= at && k < at+n {
						if to != at {
							t.Errorf("Move(%d, %v) = %d", k, e, to)
						}
					} else if to < 0 || to >= len(after) || after[to] != text[k] {
						t.Errorf("Move(%d, %v) = %d", k, e, to)
					}
				}
				if to := Move(len(text), e); to != len(after) {
					t.Errorf("Move(the end, %v) = %d", e, to)
				}
			}
		}
	}
}

// P4.1: Old and New are exchanged, and At stays.
func TestBack(t *testing.T) {
	for _, c := range []struct{ e, want api.Edit }{
		{api.Edit{At: 3, Old: "a", New: "bc"}, api.Edit{At: 3, Old: "bc", New: "a"}},
		{api.Edit{At: 3, New: "bc"}, api.Edit{At: 3, Old: "bc"}},
		{api.Edit{At: 0, Old: "bc"}, api.Edit{At: 0, New: "bc"}},
		{api.Edit{At: -5, Old: "\xff\x00", New: "\n"}, api.Edit{At: -5, Old: "\n", New: "\xff\x00"}},
		{api.Edit{At: math.MinInt}, api.Edit{At: math.MinInt}},
		{api.Edit{}, api.Edit{}},
	} {
		if b := Back(c.e); b != c.want {
			t.Errorf("Back(%v) = %v", c.e, b)
		}
		if b := Back(Back(c.e)); b != c.e {
			t.Errorf("Back twice of %v: %v", c.e, b)
		}
	}
}

// P4.2: a new history has nothing in it, and leaves the text as it is.
func TestNew(t *testing.T) {
	for _, text := range []string{"", "abc", strings.Repeat("x", api.MaxText)} {
		x, h := history(t, text)
		want(t, x, h, text, 0, 0)
		h.Close()
		noUndo(t, h)
		noRedo(t, h)
		if l := h.Cancel(); len(l) != 0 {
			t.Error(l)
		}
		want(t, x, h, text, 0, 0)
	}
}

// P4.2: a nil table, and a nil *Past.
func TestNil(t *testing.T) {
	if h := New(nil); h != nil {
		t.Error("New(nil):", h)
	}
	var h *Past
	for range 2 {
		for _, e := range []api.Edit{{}, {New: "a"}, {Old: "a"}, {At: 1, Old: "a", New: "a"}, {New: strings.Repeat("x", api.MaxText+1)}} {
			if r := h.Do(e); r != api.ErrArg {
				t.Errorf("Do: %v", r)
			}
		}
		h.Close()
		if l := h.Cancel(); len(l) != 0 {
			t.Error("Cancel:", l)
		}
		noUndo(t, h)
		noRedo(t, h)
		if a, b := h.Depth(); a != 0 || b != 0 {
			t.Error("Depth:", a, b)
		}
	}
}

// P4.2: an edit at each place, of each length; Undo and Redo of it.
func TestDo(t *testing.T) {
	const text = "a\n\x00\xffb"
	for at := range len(text) + 1 {
		for n := range len(text) - at + 1 {
			for _, is := range []string{"", "x", "\n\n", "\u20ac\xff\x00y"} {
				was := text[at : at+n]
				if was == is {
					continue
				}
				after := text[:at] + is + text[at+n:]
				x, h := history(t, text)
				do(t, h, at, was, is)
				want(t, x, h, after, 0, 0)
				h.Close()
				want(t, x, h, after, 1, 0)
				undo(t, h, api.Edit{At: at, Old: is, New: was})
				want(t, x, h, text, 0, 1)
				redo(t, h, api.Edit{At: at, Old: was, New: is})
				want(t, x, h, after, 1, 0)
			}
		}
	}
}

// wrong are edits that don't fit the text "abcb".
var wrong = []api.Edit{
	{At: -1}, // at no place of the text, even if nothing would change
	{At: 5},
	{At: math.MinInt},
	{At: math.MaxInt},
	{At: -1, New: "x"},
	{At: 5, New: "x"},
	{At: math.MinInt, New: "x"},
	{At: math.MaxInt, New: "x"},
	{At: -1, Old: "a"},
	{At: -1, Old: "a", New: "a"},
	{At: -1, Old: "ab", New: "x"},
	{At: 5, Old: "b", New: "x"},
	{At: math.MaxInt, Old: "b", New: "x"},
	{At: 4, Old: "b"}, // at the end nothing is there
	{At: 4, Old: "x", New: "x"},
	{At: 3, Old: "b\x00"}, // beyond the end
	{At: 3, Old: "bb"},
	{At: 0, Old: "abcba"},
	{At: 0, Old: "abcba", New: "abcba"},
	{At: 0, Old: "b"}, // something else is there
	{At: 1, Old: "a"},
	{At: 1, Old: "c", New: "b"},
	{At: 2, Old: "q", New: "q"},
	{At: 1, Old: "bcd"},
	{At: 0, Old: "A", New: "a"},
	{At: 0, Old: "abc\u0062\u0301", New: "x"},
	{At: 0, Old: strings.Repeat("a", api.MaxText+1)},
	{At: -1, New: strings.Repeat("x", api.MaxText+1)}, // ErrArg comes before ErrLong
	{At: 5, New: strings.Repeat("x", api.MaxText+1)},
	{At: 1, Old: "a", New: strings.Repeat("x", api.MaxText+1)},
}

// long are edits by which the text "abcb" would be too long by one byte.
var long = []api.Edit{
	{At: 0, New: strings.Repeat("x", api.MaxText-3)},
	{At: 4, New: strings.Repeat("x", api.MaxText-3)},
	{At: 1, Old: "bc", New: strings.Repeat("x", api.MaxText-1)},
	{At: 0, Old: "abcb", New: strings.Repeat("x", api.MaxText+1)},
}

// same are edits that fit the text "abcb", and change nothing.
var same = []api.Edit{
	{At: 0}, {At: 2}, {At: 4}, {At: 0, Old: "a", New: "a"}, {At: 1, Old: "bc", New: "bc"}, {At: 0, Old: "abcb", New: "abcb"}, {At: 3, Old: "b", New: "b"},
}

// vain gives a history edits that have no effect on it.
func vain(t *testing.T, h *Past) {
	t.Helper()
	for _, c := range []struct {
		edits []api.Edit
		want  api.Errno
	}{{wrong, api.ErrArg}, {long, api.ErrLong}, {same, api.OK}} {
		for _, e := range c.edits {
			if r := h.Do(e); r != c.want {
				t.Errorf("Do(%d, %.20q, %d bytes): %v, not %v", e.At, e.Old, len(e.New), r, c.want)
			}
		}
	}
}

// P4.2: edits that are refused, or that change nothing, leave the text, its pieces and the history as they were: with nothing done, with an open transaction, and after an Undo.
func TestVainEdits(t *testing.T) {
	x, h := history(t, "abcb")
	vain(t, h)
	h.Close()
	want(t, x, h, "abcb", 0, 0)
	if x.Pieces() != 1 {
		t.Error("Pieces:", x.Pieces())
	}
	noUndo(t, h)

	do(t, h, 1, "", "x")
	do(t, h, 1, "x", "")
	vain(t, h)
	if l := h.Cancel(); !slices.Equal(l, []api.Edit{{At: 1, New: "x"}, {At: 1, Old: "x"}}) {
		t.Error(l)
	}
	want(t, x, h, "abcb", 0, 0)

	do(t, h, 2, "c", "yz")
	undo(t, h, api.Edit{At: 2, Old: "yz", New: "c"})
	vain(t, h)
	h.Close()
	want(t, x, h, "abcb", 0, 1)
	redo(t, h, api.Edit{At: 2, Old: "c", New: "yz"})
	want(t, x, h, "abyzb", 1, 0)
}

// P4.2: exactly MaxText bytes may be reached, not one more; also where Old and New together would be more.
func TestUpToLimit(t *testing.T) {
	much := strings.Repeat("x", api.MaxText-3)
	x, h := history(t, "abc")
	if e := h.Do(api.Edit{At: 1, New: much + "x"}); e != api.ErrLong {
		t.Error(e)
	}
	want(t, x, h, "abc", 0, 0)
	do(t, h, 1, "", much)
	h.Close()
	want(t, x, h, "a"+much+"bc", 1, 0)
	for _, e := range []api.Edit{{At: 0, New: "y"}, {At: api.MaxText, New: "y"}, {At: 0, Old: "a", New: "yz"}} {
		if r := h.Do(e); r != api.ErrLong {
			t.Errorf("Do(%v): %v", e, r)
		}
	}
	do(t, h, 0, "a", "y")
	do(t, h, 0, "y"+much+"b", strings.Repeat("z", api.MaxText-1))
	h.Close()
	full := strings.Repeat("z", api.MaxText-1) + "c"
	want(t, x, h, full, 2, 0)
	do(t, h, 0, full, full)
	h.Close()
	want(t, x, h, full, 2, 0)
	undo(t, h, api.Edit{At: 0, Old: strings.Repeat("z", api.MaxText-1), New: "y" + much + "b"}, api.Edit{At: 0, Old: "y", New: "a"})
	want(t, x, h, "a"+much+"bc", 1, 1)
	undo(t, h, api.Edit{At: 1, Old: much})
	want(t, x, h, "abc", 0, 2)
	redo(t, h, api.Edit{At: 1, New: much})
	redo(t, h, api.Edit{At: 0, Old: "a", New: "y"}, api.Edit{At: 0, Old: "y" + much + "b", New: strings.Repeat("z", api.MaxText-1)})
	want(t, x, h, full, 2, 0)
}

// P4.2: an edit after an Undo forgets everything that was undone, and what is done stays done; a Cancel of it doesn't bring that back.
func TestDoForgetsUndone(t *testing.T) {
	for _, cancel := range []bool{false, true} {
		x, h := history(t, "")
		for _, s := range []string{"a", "b", "c"} {
			do(t, h, x.Len(), "", s)
			h.Close()
		}
		undo(t, h, api.Edit{At: 2, Old: "c"})
		undo(t, h, api.Edit{At: 1, Old: "b"})
		want(t, x, h, "a", 1, 2)
		do(t, h, 1, "", "z")
		want(t, x, h, "az", 1, 0)
		if cancel {
			h.Cancel()
			noRedo(t, h)
			want(t, x, h, "a", 1, 0)
		} else {
			noRedo(t, h)
			want(t, x, h, "az", 2, 0)
			undo(t, h, api.Edit{At: 1, Old: "z"})
		}
		undo(t, h, api.Edit{At: 0, Old: "a"})
		noUndo(t, h)
	}
}

// P4.2: a Close without edits makes no transaction, and leaves what was undone.
func TestCloseNothing(t *testing.T) {
	x, h := history(t, "ab")
	h.Close()
	h.Close()
	want(t, x, h, "ab", 0, 0)
	do(t, h, 0, "a", "")
	h.Close()
	h.Close()
	want(t, x, h, "b", 1, 0)
	undo(t, h, api.Edit{At: 0, New: "a"})
	h.Close()
	want(t, x, h, "ab", 0, 1)
	redo(t, h, api.Edit{At: 0, Old: "a"})
	h.Close()
	want(t, x, h, "b", 1, 0)
}

// P4.2: a transaction whose edits leave the text as it was is one, too.
func TestCloseToAndFro(t *testing.T) {
	x, h := history(t, "ab")
	do(t, h, 1, "", "x")
	do(t, h, 1, "x", "")
	h.Close()
	want(t, x, h, "ab", 1, 0)
	undo(t, h, api.Edit{At: 1, New: "x"}, api.Edit{At: 1, Old: "x"})
	want(t, x, h, "ab", 0, 1)
	redo(t, h, api.Edit{At: 1, New: "x"}, api.Edit{At: 1, Old: "x"})
	want(t, x, h, "ab", 1, 0)
}

// fillPast does n transactions, each of which appends a byte of a pattern, and returns the text.
func fillPast(t *testing.T, x *piece.Table, h *Past, n int) string {
	t.Helper()
	var all []byte
	for i := range n {
		c := byte('a' + i%26)
		all = append(all, c)
		do(t, h, x.Len(), "", string([]byte{c}))
		h.Close()
	}
	return string(all)
}

// P4.2: MaxPast transactions are kept; of more the first ones are forgotten, not the last ones.
func TestMaxPast(t *testing.T) {
	for _, more := range []int{0, 1, 2, 50} {
		x, h := history(t, "")
		all := fillPast(t, x, h, api.MaxPast+more)
		want(t, x, h, all, api.MaxPast, 0)
		for i := range api.MaxPast {
			k := len(all) - 1 - i
			undo(t, h, api.Edit{At: k, Old: all[k : k+1]})
		}
		noUndo(t, h)
		want(t, x, h, all[:more], 0, api.MaxPast)
		for k := more; k < len(all); k++ {
			redo(t, h, api.Edit{At: k, New: all[k : k+1]})
		}
		noRedo(t, h)
		want(t, x, h, all, api.MaxPast, 0)
	}
}

// P4.2: an open transaction isn't counted until it is closed, be it by an Undo.
func TestMaxPastOpen(t *testing.T) {
	x, h := history(t, "")
	all := fillPast(t, x, h, api.MaxPast)
	do(t, h, 0, "", "X")
	want(t, x, h, "X"+all, api.MaxPast, 0)
	if l := h.Cancel(); len(l) != 1 {
		t.Error(l)
	}
	want(t, x, h, all, api.MaxPast, 0)
	do(t, h, 0, "", "Y")
	do(t, h, 1, "", "Z")
	undo(t, h, api.Edit{At: 1, Old: "Z"}, api.Edit{At: 0, Old: "Y"})
	want(t, x, h, all, api.MaxPast-1, 1)
	for range api.MaxPast - 1 {
		if _, e := h.Undo(); e != api.OK {
			t.Fatal(e)
		}
	}
	noUndo(t, h)
	want(t, x, h, all[:1], 0, api.MaxPast)
}

// P4.2: a Cancel undoes the open transaction alone, the last edit first, and forgets it.
func TestCancel(t *testing.T) {
	x, h := history(t, "abc")
	do(t, h, 3, "", "d")
	h.Close()
	do(t, h, 0, "", "xy")
	do(t, h, 1, "ya", "")
	do(t, h, 0, "xbc", "\n")
	want(t, x, h, "\nd", 1, 0)
	back := []api.Edit{{At: 0, Old: "\n", New: "xbc"}, {At: 1, New: "ya"}, {At: 0, Old: "xy"}}
	if l := h.Cancel(); !slices.Equal(l, back) {
		t.Error(l)
	}
	want(t, x, h, "abcd", 1, 0)
	if l := h.Cancel(); len(l) != 0 {
		t.Error(l)
	}
	noRedo(t, h)
	want(t, x, h, "abcd", 1, 0)
	undo(t, h, api.Edit{At: 3, Old: "d"})
	if l := h.Cancel(); len(l) != 0 { // nothing is open
		t.Error(l)
	}
	want(t, x, h, "abc", 0, 1)
	redo(t, h, api.Edit{At: 3, New: "d"})
	want(t, x, h, "abcd", 1, 0)
}

// P4.2: Undo and Redo close the open transaction; a Redo then finds nothing undone, but has closed it.
func TestOpenIsClosed(t *testing.T) {
	x, h := history(t, "abc")
	do(t, h, 0, "a", "")
	do(t, h, 0, "b", "")
	undo(t, h, api.Edit{At: 0, New: "b"}, api.Edit{At: 0, New: "a"})
	want(t, x, h, "abc", 0, 1)
	redo(t, h, api.Edit{At: 0, Old: "a"}, api.Edit{At: 0, Old: "b"})
	want(t, x, h, "c", 1, 0)
	do(t, h, 1, "", "d")
	noRedo(t, h)
	want(t, x, h, "cd", 2, 0)
	if l := h.Cancel(); len(l) != 0 {
		t.Error(l)
	}
	want(t, x, h, "cd", 2, 0)
	do(t, h, 2, "", "e") // another transaction than d
	undo(t, h, api.Edit{At: 2, Old: "e"})
	want(t, x, h, "cd", 2, 1)
}

// P4.2: where there is nothing to undo, or to redo, nothing changes, however often it is asked.
func TestNothingToUndo(t *testing.T) {
	x, h := history(t, "abc")
	do(t, h, 3, "", "d")
	h.Close()
	for range 3 {
		noRedo(t, h)
		want(t, x, h, "abcd", 1, 0)
	}
	undo(t, h, api.Edit{At: 3, Old: "d"})
	for range 3 {
		noUndo(t, h)
		want(t, x, h, "abc", 0, 1)
	}
	redo(t, h, api.Edit{At: 3, New: "d"})
	noRedo(t, h)
	want(t, x, h, "abcd", 1, 0)
}

// P4.2, P4: several Undos restore the texts before each transaction, and as many Redos those after it.
func TestUndoRedoSeveral(t *testing.T) {
	x, h := history(t, "one two three")
	texts := []string{"one two three"}
	for _, edits := range [][]api.Edit{
		{{At: 0, Old: "one "}},
		{{At: 3, Old: " ", New: "\n"}, {At: 0, New: "# "}, {At: 6, New: "# "}},
		{{At: 0, Old: "# two\n# three"}},
		{{At: 0, New: "\xff"}, {At: 1, New: "\x00"}, {At: 0, Old: "\xff\x00", New: "\u20ac"}},
		{{At: 3, New: "a"}, {At: 4, New: "b"}, {At: 4, Old: "b"}},
	} {
		for _, e := range edits {
			do(t, h, e.At, e.Old, e.New)
		}
		h.Close()
		texts = append(texts, string(x.Bytes()))
	}
	last := len(texts) - 1
	for n := range last + 1 {
		for i := range n {
			if _, e := h.Undo(); e != api.OK {
				t.Errorf("Undo %d of %d: %v", i, n, e)
			}
			want(t, x, h, texts[last-i-1], last-i-1, i+1)
		}
		for i := range n {
			if _, e := h.Redo(); e != api.OK {
				t.Errorf("Redo %d of %d: %v", i, n, e)
			}
			want(t, x, h, texts[last-n+i+1], last-n+i+1, n-i-1)
		}
	}
}

// P4.2: an edit is made by one Delete and one Insert: typing extends a piece, and no piece is split beyond need.
func TestPieces(t *testing.T) {
	x, h := history(t, "abcd")
	do(t, h, 2, "", "x")
	do(t, h, 3, "", "y")
	if x.Pieces() != 3 {
		t.Error("Pieces:", x.Pieces())
	}
	do(t, h, 2, "xy", "z")
	if x.Pieces() != 3 {
		t.Error("Pieces:", x.Pieces())
	}
	do(t, h, 0, "ab", "")
	if x.Pieces() != 2 {
		t.Error("Pieces:", x.Pieces())
	}
}

// P2: what is written over, or appended to, in the results has no effect on the history, and the history none on them.
func TestResultsApart(t *testing.T) {
	x, h := history(t, "")
	edits := []api.Edit{{At: 0, New: "a"}, {At: 1, New: "b"}, {At: 2, New: "c"}}
	back := []api.Edit{{At: 2, Old: "c"}, {At: 1, Old: "b"}, {At: 0, Old: "a"}}
	for _, e := range edits {
		do(t, h, e.At, e.Old, e.New)
	}
	h.Close()
	spoil := func(l []api.Edit) {
		_ = append(l, api.Edit{At: 99, Old: "q"})
		for i := range l {
			l[i] = api.Edit{At: 77, New: "?"}
		}
	}
	for range 3 {
		l, _ := h.Undo()
		spoil(l)
		l, e := h.Redo()
		if e != api.OK || !slices.Equal(l, edits) {
			t.Error(l, e)
		}
		spoil(l)
		want(t, x, h, "abc", 1, 0)
	}
	l, _ := h.Undo()
	if !slices.Equal(l, back) {
		t.Error(l)
	}
	for _, e := range edits {
		do(t, h, e.At, e.Old, e.New)
	}
	c := h.Cancel()
	spoil(c)
	do(t, h, 0, "", "z")
	if !slices.Equal(l, back) {
		t.Error("a result was changed:", l)
	}
	undo(t, h, api.Edit{At: 0, Old: "z"})
	want(t, x, h, "", 0, 1)
}

// P2: two histories, of a table each, don't meet.
func TestHistoriesApart(t *testing.T) {
	x, h := history(t, "ab")
	y, g := history(t, "ab")
	do(t, h, 0, "a", "")
	do(t, g, 1, "b", "")
	h.Close()
	want(t, x, h, "b", 1, 0)
	want(t, y, g, "a", 0, 0)
	undo(t, g, api.Edit{At: 1, New: "b"})
	want(t, x, h, "b", 1, 0)
	want(t, y, g, "ab", 0, 1)
}

// turn is a transaction of the model: its edits, and the whole text on both sides of it.
type turn struct {
	edits         []api.Edit
	before, after string
}

// model is P4.2 with whole texts instead of edits that are undone.
type model struct {
	text         string
	open         turn
	done, undone []turn
}

// The edits of the rows, made to fit the text at hand; beyond fits none, and remain changes nothing.
func insert(text string) api.Edit { return api.Edit{At: len(text), New: "b\n"} }
func before(text string) api.Edit { return api.Edit{At: 0, New: "a"} }
func beyond(text string) api.Edit { return api.Edit{At: len(text) + 1, New: "a"} }
func remain(text string) api.Edit { return api.Edit{At: 0, Old: text, New: text} }
func drop(text string) api.Edit   { return api.Edit{At: 0, Old: text[:min(1, len(text))]} }
func change(text string) api.Edit {
	n := max(len(text)-2, 0)
	return api.Edit{At: n, Old: text[n:], New: "xyz"}
}

func (m *model) do(e api.Edit) api.Errno {
	if e.At > len(m.text) {
		return api.ErrArg
	}
	if e.Old == e.New {
		return api.OK
	}
	if len(m.open.edits) == 0 {
		m.open.before = m.text
	}
	m.text = m.text[:e.At] + e.New + m.text[e.At+len(e.Old):]
	m.open.edits = append(m.open.edits, e)
	m.undone = nil
	return api.OK
}

func (m *model) close() {
	if len(m.open.edits) > 0 {
		m.open.after = m.text
		m.done = append(m.done, m.open)
		m.open = turn{}
	}
}

func (m *model) cancel() []api.Edit {
	x := m.open
	if len(x.edits) > 0 {
		m.text = x.before
	}
	m.open = turn{}
	return reversed(x.edits)
}

func (m *model) undo() ([]api.Edit, api.Errno) {
	m.close()
	n := len(m.done)
	if n == 0 {
		return nil, api.ErrUndo
	}
	x := m.done[n-1]
	m.done, m.undone = m.done[:n-1:n-1], append(m.undone, x)
	m.text = x.before
	return reversed(x.edits), api.OK
}

func (m *model) redo() ([]api.Edit, api.Errno) {
	m.close()
	n := len(m.undone)
	if n == 0 {
		return nil, api.ErrUndo
	}
	x := m.undone[n-1]
	m.undone, m.done = m.undone[:n-1:n-1], append(m.done, x)
	m.text = x.after
	return x.edits, api.OK
}

// reversed returns the Backs of edits, that of the last one first.
func reversed(edits []api.Edit) []api.Edit {
	var out []api.Edit
	for _, e := range edits {
		out = slices.Insert(out, 0, api.Edit{At: e.At, Old: e.New, New: e.Old})
	}
	return out
}

// calls is the number of calls that step knows.
const calls = 10

// step makes one call of a history and of its model, and reports whether both return the same.
func step(h *Past, m *model, call int) bool {
	switch call {
	case 0:
		h.Close()
		m.close()
		return true
	case 1:
		return slices.Equal(h.Cancel(), m.cancel())
	case 2:
		a, e := h.Undo()
		b, f := m.undo()
		return slices.Equal(a, b) && e == f
	case 3:
		a, e := h.Redo()
		b, f := m.redo()
		return slices.Equal(a, b) && e == f
	}
	edit := []func(string) api.Edit{insert, before, beyond, remain, drop, change}[call-4](m.text)
	return h.Do(edit) == m.do(edit)
}

// agree reports whether a table and its history are as the model says.
func agree(x *piece.Table, h *Past, m *model) bool {
	a, b := h.Depth()
	return string(x.Bytes()) == m.text && a == len(m.done) && b == len(m.undone)
}

// P4.2, P1, P2: all short rows of calls, held against the model after each call.
func TestAllShortRows(t *testing.T) {
	const length = 5
	rows := 1
	for range length {
		rows *= calls
	}
	for row := range rows {
		x, h := history(t, "pq")
		m := &model{text: "pq"}
		for i, k := 0, row; i < length; i, k = i+1, k/calls {
			if !step(h, m, k%calls) || !agree(x, h, m) {
				t.Fatalf("row %0*d (from the right), call %d: %q, not %q", length, row, i, x.Bytes(), m.text)
			}
		}
	}
}

// P4.2, P1, P2: long rows of calls, by a fixed rule, held against the model after each call.
func TestLongRows(t *testing.T) {
	for seed := range uint32(40) {
		x, h := history(t, "")
		m := &model{}
		state := seed
		for i := range 400 {
			state = state*1664525 + 1013904223
			if !step(h, m, int(state>>16)%calls) || !agree(x, h, m) {
				t.Fatalf("row %d, call %d: %q, not %q", seed, i, x.Bytes(), m.text)
			}
		}
	}
}
