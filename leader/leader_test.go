package leader

import (
	"slices"
	"strings"
	"testing"
)

// all are the marks, as the chapter lists them.
var all = []string{"//", "--", ";;", "#", ";", "*", ">", "%"}

// blanks are some that stand ahead of a mark, or behind it.
var blanks = []string{"", " ", "\t", "  ", " \t", "\t ", "\t\t", " \t \t"}

// P6.1: the marks.
func TestMark(t *testing.T) {
	for _, s := range all {
		if !Mark(s) {
			t.Errorf("Mark(%q) is false", s)
		}
	}
	for _, s := range []string{"", " ", "\t", "\n", "/", "-", "///", "---", ";;;", "##", "**", ">>", "%%", "/-", "-/", ";#", "#;",
		" #", "# ", "#\n", "\n#", "#a", "a#", "a", "// ", "#\x00", "\u2013", "\uff03", "\xff", strings.Repeat("#", 1000)} {
		if Mark(s) {
			t.Errorf("Mark(%q) is true", s)
		}
	}
}

// P6.1: of all texts of one and of two bytes, only the eight are marks.
func TestMarkShort(t *testing.T) {
	check := func(s string) {
		if want := slices.Contains(all, s); Mark(s) != want {
			t.Errorf("Mark(%q) is %v", s, !want)
		}
	}
	for i := range 256 {
		check(string([]byte{byte(i)}))
		for k := range 256 {
			check(string([]byte{byte(i), byte(k)}))
		}
	}
}

// checkOf holds P6.1 for a line that must be split so.
func checkOf(t *testing.T, line, head, gap, rest string) {
	t.Helper()
	if a, b, c := Of(line); a != head || b != gap || c != rest {
		t.Errorf("Of(%q) = %q, %q, %q, not %q, %q, %q", line, a, b, c, head, gap, rest)
	}
}

// P6.1: the edges that the chapter names.
func TestOf(t *testing.T) {
	for _, c := range [][4]string{
		{"", "", "", ""},
		{"  // a b", "  //", " ", "a b"},
		// No mark.
		{"a", "", "", "a"},
		{"a b ", "", "", "a b "},
		{" \ta #", " \t", "", "a #"},
		{" ", " ", "", ""},
		{"\t \t", "\t \t", "", ""},
		{"/ a", "", "", "/ a"},
		{"- a", "", "", "- a"},
		{"/// a", "", "", "/// a"},
		{"## a", "", "", "## a"},
		{"a# b", "", "", "a# b"},
		// A mark alone, and one with blanks alone behind it.
		{"#", "#", "", ""},
		{"  --", "  --", "", ""},
		{"# ", "#", " ", ""},
		{"\t;; \t", "\t;;", " \t", ""},
		// Something right behind it.
		{"#a", "", "", "#a"},
		{" //a b", " ", "", "//a b"},
		{"*\u20ac", "", "", "*\u20ac"},
		{"%\xff", "", "", "%\xff"},
		{";\u00a0a", "", "", ";\u00a0a"},
		{"#\r", "", "", "#\r"},
		{"#\x00 a", "", "", "#\x00 a"},
		// A line end is no blank.
		{"#\na", "", "", "#\na"},
		{"\n# a", "", "", "\n# a"},
		{"# \n", "#", " ", "\n"},
		// Two marks, one behind the other: only the first is split off.
		{"# # c", "#", " ", "# c"},
		{"> >", ">", " ", ">"},
		{"// -- a", "//", " ", "-- a"},
		{"#; a", "", "", "#; a"},
		{";;; a", "", "", ";;; a"},
		{"; ; a", ";", " ", "; a"},
		// Blanks of both kinds, and within the rest.
		{"\t >\t b\tc ", "\t >", "\t ", "b\tc "},
		{"*\ta", "*", "\t", "a"},
	} {
		checkOf(t, c[0], c[1], c[2], c[3])
	}
}

// P6.1: each mark, with each indent, each gap and each rest.
func TestOfEachMark(t *testing.T) {
	for _, mark := range all {
		for _, indent := range blanks {
			for _, gap := range blanks {
				checkOf(t, indent+mark+gap, indent+mark, gap, "")
				for _, rest := range append([]string{"a", "a b", "a\t", "(", "\u00e9", "\xff", "\r", "\n"}, all...) {
					checkBehind(t, indent, mark, gap, rest)
				}
			}
		}
	}
}

// checkBehind holds P6.1 for a mark that has something behind it.
func checkBehind(t *testing.T, indent, mark, gap, rest string) {
	t.Helper()
	line := indent + mark + gap + rest
	if gap != "" {
		checkOf(t, line, indent+mark, gap, rest)
	} else if both := mark + rest; slices.Contains(all, both) {
		checkOf(t, line, indent+both, "", "")
	} else {
		checkOf(t, line, indent, "", both)
	}
}

// modelOf is Of, by all the ways to split a line: the first that has the form that the chapter tells.
func modelOf(line string) (head, gap, rest string) {
	body := strings.TrimLeft(line, " \t")
	indent := line[:len(line)-len(body)]
	for _, mark := range all {
		after, ok := strings.CutPrefix(body, mark)
		rest := strings.TrimLeft(after, " \t")
		if ok && (after == "" || rest != after) {
			return indent + mark, after[:len(after)-len(rest)], rest
		}
	}
	return indent, "", body
}

// P1, P6.1: all short lines, held against a model; the parts make the line again, and Marked tells whether there is a mark.
func TestAllShort(t *testing.T) {
	var grow func(line string, left int)
	grow = func(line string, left int) {
		head, gap, rest := modelOf(line)
		checkOf(t, line, head, gap, rest)
		if head+gap+rest != line {
			t.Errorf("%q isn't made of its parts", line)
		}
		if want := strings.Trim(head, " \t") != ""; Marked(head) != want {
			t.Errorf("Marked(%q) is %v", head, !want)
		}
		if left == 0 {
			return
		}
		for _, s := range []string{" ", "\t", "/", "-", ";", "#", "a", "\n", "\xc3"} {
			grow(line+s, left-1)
		}
	}
	grow("", 5)
}

// P6.1: a head is marked, if it has anything but blanks.
func TestMarked(t *testing.T) {
	for _, s := range blanks {
		if Marked(s) {
			t.Errorf("Marked(%q) is true", s)
		}
		for _, mark := range append([]string{"a", "\n", "\r", "\v", "\x00", "\u00a0", "\xff", "# a"}, all...) {
			if !Marked(s+mark) || !Marked(mark+s) || !Marked(s+mark+s) {
				t.Errorf("Marked of %q and %q is false", s, mark)
			}
		}
	}
}

// P1: long lines.
func TestLong(t *testing.T) {
	const n = 65536
	for _, s := range []string{" ", "\t", "a", "#", "\u20ac"} {
		line := strings.Repeat(s, n)
		head, gap, rest := modelOf(line)
		checkOf(t, line, head, gap, rest)
		checkOf(t, "# "+line+"x", "#", strings.TrimRight(" "+line, "a#\u20ac"), strings.TrimLeft(line+"x", " \t"))
	}
}
