package fill

import (
	"fmt"
	"math"
	"math/rand"
	"slices"
	"testing"
)

// far is how great widths and rooms may be.
const far = 1 << 20

// times is n words of a width.
func times(n, width int) []int { return slices.Repeat([]int{width}, n) }

// list puts widths, and lists of widths, into one list.
func list(parts ...any) []int {
	var l []int
	for _, p := range parts {
		switch x := p.(type) {
		case int:
			l = append(l, x)
		case []int:
			l = append(l, x...)
		}
	}
	return l
}

// costOf is Cost by the words of the chapter: the line is written out, a column at a time.
func costOf(widths []int, room int) (int, bool) {
	var line []byte
	for i, w := range widths {
		if i > 0 {
			line = append(line, ' ')
		}
		line = append(line, slices.Repeat([]byte("x"), w)...)
	}
	switch {
	case len(widths) == 0:
		return 0, false
	case len(line) <= room:
		return (room - len(line)) * (room - len(line)), true
	}
	return 0, len(widths) == 1
}

// sumOf is Sum by the words of the chapter.
func sumOf(widths, lines []int, room int) (int, bool) {
	total := 0
	for _, n := range lines {
		if n < 1 {
			return 0, false
		}
		total += n
	}
	if total != len(widths) {
		return 0, false
	}
	sum, at := 0, 0
	for i, n := range lines {
		cost, ok := costOf(widths[at:at+n], room)
		if !ok {
			return 0, false
		}
		if i < len(lines)-1 {
			sum += cost
		}
		at += n
	}
	return sum, true
}

// divisions are all divisions of n words, those with the most words in the first line first, then in the second one, and so on.
func divisions(n int) [][]int {
	if n == 0 {
		return [][]int{nil}
	}
	var l [][]int
	for first := n; first > 0; first-- {
		for _, rest := range divisions(n - first) {
			l = append(l, append([]int{first}, rest...))
		}
	}
	return l
}

// linesOf is Lines by the words of the chapter: all divisions are tried.
func linesOf(widths []int, room int) []int {
	var best []int
	low, found := 0, false
	for _, l := range divisions(len(widths)) {
		if sum, ok := sumOf(widths, l, room); ok && (!found || sum < low) {
			best, low, found = l, sum, true
		}
	}
	return best
}

// slow is Lines with each length of each line tried, for lists that have too many divisions to try them all.
func slow(widths []int, room int) []int {
	n := len(widths)
	sums, counts := make([]int, n+1), make([]int, n+1)
	for i := n - 1; i >= 0; i-- {
		counts[i] = 0
		size := -1
		for k := 1; i+k <= n; k++ {
			size += widths[i+k-1] + 1
			if size > room && k > 1 {
				break
			}
			cost := sums[i+k]
			if i+k < n && size <= room {
				cost += (room - size) * (room - size)
			}
			if counts[i] == 0 || cost <= sums[i] {
				sums[i], counts[i] = cost, k
			}
		}
	}
	var l []int
	for i := 0; i < n; i += counts[i] {
		l = append(l, counts[i])
	}
	return l
}

// short is a list as it is told in a test's failure.
func short(l []int) string {
	if len(l) > 20 {
		return fmt.Sprint(l[:20], " and ", len(l)-20, " more")
	}
	return fmt.Sprint(l)
}

// P12.1: Cost.
func TestCost(t *testing.T) {
	for _, c := range []struct {
		widths []int
		room   int
		cost   int
		ok     bool
	}{
		{nil, 5, 0, false},
		{[]int{}, 5, 0, false},
		{nil, 1, 0, false},
		{nil, far, 0, false},
		// One word: narrower than the room, as wide, wider.
		{[]int{1}, 5, 16, true},
		{[]int{4}, 5, 1, true},
		{[]int{5}, 5, 0, true},
		{[]int{6}, 5, 0, true},
		{[]int{7}, 5, 0, true},
		{[]int{1}, 1, 0, true},
		{[]int{2}, 1, 0, true},
		{[]int{far}, 1, 0, true},
		{[]int{far}, far, 0, true},
		{[]int{far - 1}, far, 1, true},
		{[]int{1}, far, (far - 1) * (far - 1), true},
		// Several words: the blanks between them count.
		{[]int{3, 2}, 9, 9, true},
		{[]int{3, 2}, 7, 1, true},
		{[]int{3, 2}, 6, 0, true},
		{[]int{3, 2}, 5, 0, false},
		{[]int{3, 2}, 4, 0, false},
		{[]int{3, 2}, 1, 0, false},
		{[]int{1, 1}, 3, 0, true},
		{[]int{1, 1}, 2, 0, false},
		{[]int{1, 1}, 1, 0, false},
		{[]int{1, 2, 3}, 10, 4, true},
		{[]int{3, 2, 1}, 8, 0, true},
		{[]int{1, 2, 3}, 7, 0, false},
		// One of several is wider by itself.
		{[]int{9, 1}, 5, 0, false},
		{[]int{1, 9}, 5, 0, false},
		{[]int{9, 9}, 5, 0, false},
		{[]int{far, far}, 1, 0, false},
		{[]int{far, far}, far, 0, false},
		{[]int{far / 2, far/2 - 1}, far, 0, true},
		{[]int{far / 2, far / 2}, far, 0, false},
		{[]int{far / 2, far/2 - 3}, far, 4, true},
		{times(far/2, 1), far, 1, true},
		{times(far/2+1, 1), far, 0, false},
		{times(1<<16, far), far, 0, false},
	} {
		if cost, ok := Cost(c.widths, c.room); cost != c.cost || ok != c.ok {
			t.Errorf("Cost(%s, %d) is %d, %v, not %d, %v", short(c.widths), c.room, cost, ok, c.cost, c.ok)
		}
	}
}

// P12.1: Sum.
func TestSum(t *testing.T) {
	w := []int{3, 2, 2, 5}
	for _, c := range []struct {
		widths, lines []int
		room          int
		sum           int
		ok            bool
	}{
		{nil, nil, 6, 0, true},
		{[]int{}, []int{}, 1, 0, true},
		{w, []int{2, 1, 1}, 6, 16, true},
		{w, []int{1, 2, 1}, 6, 10, true},
		{w, []int{1, 1, 1, 1}, 6, 9 + 16 + 16, true},
		{w, []int{3, 1}, 9, 0, true},
		{w, []int{1, 3}, 11, 64, true},
		{w, []int{2, 2}, 8, 4, true},
		// The last line costs nothing, but may not be too wide.
		{w, []int{4}, 15, 0, true},
		{w, []int{4}, 99, 0, true},
		{w, []int{4}, 14, 0, false},
		{w, []int{2, 2}, 7, 0, false},
		{w, []int{1, 1, 2}, 7, 0, false},
		// A line that isn't the last one is too wide.
		{w, []int{3, 1}, 8, 0, false},
		{w, []int{2, 1, 1}, 5, 0, false},
		{w, []int{1, 2, 1}, 4, 0, false},
		// A word is wider than the room.
		{w, []int{1, 1, 1, 1}, 2, 0, true},
		{w, []int{1, 1, 1, 1}, 1, 0, true},
		{w, []int{1, 1, 1, 1}, 4, 1 + 4 + 4, true},
		{[]int{1, 9, 1}, []int{1, 1, 1}, 5, 16, true},
		{[]int{1, 9, 1}, []int{2, 1}, 5, 0, false},
		{[]int{1, 9, 1}, []int{1, 2}, 5, 0, false},
		{[]int{9}, []int{1}, 5, 0, true},
		{[]int{1}, []int{1}, 5, 0, true},
		// Not all words, or more of them.
		{w, nil, 20, 0, false},
		{w, []int{}, 20, 0, false},
		{w, []int{3}, 20, 0, false},
		{w, []int{2, 1}, 20, 0, false},
		{w, []int{5}, 20, 0, false},
		{w, []int{2, 3}, 20, 0, false},
		{w, []int{4, 1}, 20, 0, false},
		{w, []int{1, 1, 1, 1, 1}, 20, 0, false},
		{nil, []int{1}, 20, 0, false},
		// Lines with less than 1 word.
		{nil, []int{0}, 20, 0, false},
		{nil, []int{-1}, 20, 0, false},
		{nil, []int{1, -1}, 20, 0, false},
		{nil, []int{-1, 1}, 20, 0, false},
		{w, []int{0, 4}, 20, 0, false},
		{w, []int{4, 0}, 20, 0, false},
		{w, []int{2, 0, 2}, 20, 0, false},
		{w, []int{-1, 5}, 20, 0, false},
		{w, []int{5, -1}, 20, 0, false},
		{w, []int{2, -1, 3}, 20, 0, false},
		{w, []int{3, -1, 2}, 20, 0, false},
		{w, []int{-4}, 20, 0, false},
		// Numbers that make 4 when they wrap round.
		{w, []int{math.MaxInt, math.MaxInt, 6}, 20, 0, false},
		{w, []int{2, math.MaxInt, math.MinInt, 3}, 20, 0, false},
		{w, []int{math.MinInt, math.MinInt, 4}, 20, 0, false},
		{w, []int{4, math.MinInt, math.MinInt}, 20, 0, false},
		{w, []int{1 << 31, -(1 << 31) + 4}, 20, 0, false},
		// Great sums.
		{times(1<<16, 1), times(1<<16, 1), far, (1<<16 - 1) * (far - 1) * (far - 1), true},
		{times(1<<16, far), times(1<<16, 1), far, 0, true},
		{times(1<<16, far), times(1<<15, 2), far, 0, false},
	} {
		if sum, ok := Sum(c.widths, c.lines, c.room); sum != c.sum || ok != c.ok {
			t.Errorf("Sum(%s, %s, %d) is %d, %v, not %d, %v", short(c.widths), short(c.lines), c.room, sum, ok, c.sum, c.ok)
		}
	}
}

// P12.2: Lines, of the edges that the chapter names.
func TestLines(t *testing.T) {
	for _, c := range []struct {
		widths []int
		room   int
		want   []int
	}{
		{nil, 5, nil},
		{[]int{}, 1, nil},
		{nil, far, nil},
		{[]int{3, 2, 2, 5}, 6, []int{1, 2, 1}},
		// All in one line, and just not.
		{[]int{3, 2, 2, 5}, 15, []int{4}},
		{[]int{3, 2, 2, 5}, 14, []int{3, 1}},
		{[]int{3, 2, 2, 5}, far, []int{4}},
		{[]int{5}, 5, []int{1}},
		{[]int{1}, far, []int{1}},
		// One word a line.
		{[]int{1, 1, 1, 1}, 1, []int{1, 1, 1, 1}},
		{[]int{1, 1, 1, 1}, 2, []int{1, 1, 1, 1}},
		{[]int{1, 1, 1, 1}, 3, []int{2, 2}},
		// A word that is wider than the room is by itself, wherever it is.
		{[]int{9}, 5, []int{1}},
		{[]int{9, 9}, 5, []int{1, 1}},
		{[]int{9, 1, 1}, 5, []int{1, 2}},
		{[]int{1, 1, 9}, 5, []int{2, 1}},
		{[]int{1, 9, 1}, 5, []int{1, 1, 1}},
		{[]int{6, 1, 1}, 5, []int{1, 2}},
		{[]int{5, 1, 1}, 5, []int{1, 2}},
		{[]int{1, 1, 1, 9, 1, 1, 1}, 5, []int{3, 1, 3}},
		{[]int{1, 1, 1, 1, 9, 1, 1, 1, 1}, 5, []int{2, 2, 1, 3, 1}},
		// The line ahead of a wider word isn't the last one, so it costs something: 2 and 2 words 8, 3 and 1 words 16.
		{[]int{1, 1, 1, 1, 9}, 5, []int{2, 2, 1}},
		{[]int{1, 1, 1, 1}, 5, []int{3, 1}},
		// A first line that costs more may make all of them cost less.
		{[]int{3, 2, 2, 6, 9}, 6, []int{1, 2, 1, 1}},
		{[]int{3, 2, 3, 6, 9}, 6, []int{2, 1, 1, 1}},
		// Of equal sums that with the most words in the first line, then in the second one.
		{[]int{1, 1, 1}, 5, []int{3}},
		{[]int{2, 2, 2}, 5, []int{2, 1}},
		{[]int{1, 1, 1, 1, 1}, 5, []int{3, 2}},
		{[]int{2, 1, 2, 9}, 4, []int{2, 1, 1}},
		{[]int{2, 1, 2, 2, 9}, 5, []int{2, 2, 1}},
		{[]int{4, 2, 1, 2, 9}, 4, []int{1, 2, 1, 1}},
		{[]int{1, 1, 1, 1, 1, 9}, 3, []int{2, 2, 1, 1}},
	} {
		if l := Lines(c.widths, c.room); !slices.Equal(l, c.want) {
			t.Errorf("Lines(%v, %d) is %v, not %v", c.widths, c.room, l, c.want)
		}
	}
}

// each calls a function with all lists of up to n of some widths.
func each(n, width int, try func([]int)) {
	var widths []int
	var more func(left int)
	more = func(left int) {
		try(widths)
		for w := 1; left > 0 && w <= width; w++ {
			widths = append(widths, w)
			more(left - 1)
			widths = widths[:len(widths)-1]
		}
	}
	more(n)
}

// P12.1: Cost and Sum of all short lists, in all ways to divide them.
func TestShortSums(t *testing.T) {
	each(5, 3, func(widths []int) {
		for room := 1; room <= 20; room++ {
			cost, ok := Cost(widths, room)
			if c, k := costOf(widths, room); c != cost || k != ok {
				t.Fatalf("Cost(%v, %d) is %d, %v, not %d, %v", widths, room, cost, ok, c, k)
			}
		}
		for n := 0; n <= 6; n++ {
			for _, lines := range divisions(n) {
				for _, room := range []int{1, 2, 3, 4, 5, 6, 7, 9, 12, 19} {
					sum, ok := Sum(widths, lines, room)
					if s, k := sumOf(widths, lines, room); s != sum || k != ok {
						t.Fatalf("Sum(%v, %v, %d) is %d, %v, not %d, %v", widths, lines, room, sum, ok, s, k)
					}
				}
			}
		}
	})
}

// P12.1: Sum of lists of any numbers as lines.
func TestOddSums(t *testing.T) {
	r := rand.New(rand.NewSource(1))
	for range 100000 {
		widths, lines := make([]int, r.Intn(5)), make([]int, r.Intn(5))
		for i := range widths {
			widths[i] = 1 + r.Intn(4)
		}
		for i := range lines {
			lines[i] = r.Intn(6) - 1
		}
		room := 1 + r.Intn(10)
		sum, ok := Sum(widths, lines, room)
		if s, k := sumOf(widths, lines, room); s != sum || k != ok {
			t.Fatalf("Sum(%v, %v, %d) is %d, %v, not %d, %v", widths, lines, room, sum, ok, s, k)
		}
	}
}

// P12.2, P5: Lines of all short lists, against all their divisions.
func TestShortLines(t *testing.T) {
	try := func(widths []int, room int) {
		l := Lines(widths, room)
		if want := linesOf(widths, room); !slices.Equal(l, want) {
			t.Fatalf("Lines(%v, %d) is %v, not %v", widths, room, l, want)
		}
		if want := slow(widths, room); !slices.Equal(l, want) {
			t.Fatalf("the test's own Lines(%v, %d) is %v, not %v", widths, room, want, l)
		}
	}
	each(5, 4, func(widths []int) {
		for room := 1; room <= 12; room++ {
			try(widths, room)
		}
	})
	each(9, 2, func(widths []int) {
		for room := 1; room <= 7; room++ {
			try(widths, room)
		}
	})
	r := rand.New(rand.NewSource(2))
	for range 3000 {
		widths := make([]int, r.Intn(13))
		most := 1 + r.Intn(9)
		for i := range widths {
			widths[i] = 1 + r.Intn(most)
		}
		try(widths, 1+r.Intn(20))
	}
}

// P12.2, P5: Lines of lists that are longer, or whose widths are great, against a slower way.
func TestLongLines(t *testing.T) {
	r := rand.New(rand.NewSource(3))
	for range 4000 {
		n, most := r.Intn(300), 1<<r.Intn(21)
		widths := make([]int, n)
		for i := range widths {
			widths[i] = 1 + r.Intn(most)
			// Now and then some are much narrower, or wider.
			switch r.Intn(20) {
			case 0:
				widths[i] = 1
			case 1:
				widths[i] = min(far, most*(1+r.Intn(5)))
			}
		}
		room := min(far, 1+r.Intn(most*(1+r.Intn(30))))
		l := Lines(widths, room)
		if want := slow(widths, room); !slices.Equal(l, want) {
			t.Fatalf("Lines(%s, %d) is %s, not %s", short(widths), room, short(l), short(want))
		}
		if _, ok := Sum(widths, l, room); !ok {
			t.Fatalf("Lines(%s, %d) is %s, which has no Sum", short(widths), room, short(l))
		}
	}
}

// P12.2: the words of a paragraph of api.MaxText bytes, and many more, in rooms in which a line has thousands of them.
func TestManyWords(t *testing.T) {
	half := times(far/2, 1)
	for _, c := range []struct {
		widths []int
		room   int
		want   []int
	}{
		{half, far - 1, []int{far / 2}},
		{half, far, []int{far / 2}},
		{list(half, half), far, []int{far / 2, far / 2}},
		{list(half, half), far - 1, []int{far / 2, far / 2}},
		{list(half, half), far - 2, []int{far/2 - 1, far/2 - 1, 2}},
		{list(half, 1), far, []int{far / 2, 1}},
		{list(half, far), far, []int{far / 2, 1}},
		{list(half, far, half), far, []int{far / 2, 1, far / 2}},
		// The lines ahead of a wider word aren't the last one: the words are shared out, as evenly as can be.
		{list(half, 9, far), far, []int{far/4 + 3, far/4 - 2, 1}},
		{list(half, half), 1, times(far, 1)},
		{times(1<<16, far), far, times(1<<16, 1)},
		{times(1<<16, far), 1, times(1<<16, 1)},
		{times(1<<16, far/2), far, times(1<<16, 1)},
		{times(1<<16, far/2-1), far, times(1<<15, 2)},
		{times(1<<15, 1), 10000, []int{5000, 5000, 5000, 5000, 5000, 5000, 2768}},
		{times(1<<15, 1), 9999, []int{5000, 5000, 5000, 5000, 5000, 5000, 2768}},
	} {
		if l := Lines(c.widths, c.room); !slices.Equal(l, c.want) {
			t.Errorf("Lines(%s, %d) is %s, not %s", short(c.widths), c.room, short(l), short(c.want))
		}
	}
	r := rand.New(rand.NewSource(4))
	for _, n := range []int{5000, 1 << 15} {
		widths := make([]int, n)
		for i := range widths {
			widths[i] = 1 + r.Intn(3)
		}
		l := Lines(widths, 10000)
		if want := slow(widths, 10000); !slices.Equal(l, want) {
			t.Errorf("Lines(%s, 10000) is %s, not %s", short(widths), short(l), short(want))
		}
	}
}

// P1: widths, rooms and lines for which nothing is specified.
func TestAnything(t *testing.T) {
	odd := []int{math.MinInt, math.MinInt + 1, -1 << 62, -1 << 32, -1 << 31, -far, -2, -1, 0, 1, 2, far, 1<<31 - 1, 1 << 31, 1 << 32, 1 << 62, math.MaxInt - 1, math.MaxInt}
	try := func(widths, lines []int, room int) {
		if cost, ok := Cost(widths, room); !ok && cost != 0 {
			t.Errorf("Cost(%v, %d) is %d, false", widths, room, cost)
		}
		if sum, ok := Sum(widths, lines, room); !ok && sum != 0 {
			t.Errorf("Sum(%v, %v, %d) is %d, false", widths, lines, room, sum)
		}
		total := 0
		for _, n := range Lines(widths, room) {
			if n < 1 || n > len(widths)-total {
				t.Fatalf("Lines(%v, %d) has %d words in a line", widths, room, n)
			}
			total += n
		}
		if total != len(widths) {
			t.Errorf("Lines(%v, %d) has %d words", widths, room, total)
		}
	}
	for _, room := range odd {
		try(nil, nil, room)
		for _, a := range odd {
			try([]int{a}, []int{a}, room)
			for _, b := range odd {
				try([]int{a, b}, []int{b, a}, room)
				for _, c := range odd {
					try([]int{a, b, c}, []int{1, c}, room)
				}
			}
		}
	}
	r := rand.New(rand.NewSource(5))
	for range 20000 {
		widths, lines := make([]int, r.Intn(30)), make([]int, r.Intn(5))
		for i := range widths {
			widths[i] = odd[r.Intn(len(odd))] >> r.Intn(4)
		}
		for i := range lines {
			lines[i] = odd[r.Intn(len(odd))] >> r.Intn(4)
		}
		try(widths, lines, odd[r.Intn(len(odd))]>>r.Intn(4))
	}
}

// P2: the same arguments have the same answers; they aren't changed, and answers share no memory.
func TestSame(t *testing.T) {
	widths, lines := []int{3, 2, 2, 5, 9, 1, 1}, []int{1, 2, 1, 1, 2}
	w, want := slices.Clone(widths), slices.Clone(lines)
	for range 3 {
		l := Lines(widths, 6)
		if !slices.Equal(l, want) {
			t.Fatal(l)
		}
		for i := range l {
			l[i] = 0
		}
		if cost, ok := Cost(widths[:2], 6); cost != 0 || !ok {
			t.Fatal(cost, ok)
		}
		if sum, ok := Sum(widths, lines, 6); sum != 11 || !ok {
			t.Fatal(sum, ok)
		}
		Lines(nil, 6)
		Lines([]int{1, 1, 1}, 2)
	}
	if !slices.Equal(widths, w) || !slices.Equal(lines, want) {
		t.Fatal(widths, lines)
	}
}
