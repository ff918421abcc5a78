// Package glyph is layer 1: UTF-8 characters, and the columns in which they stand.
package glyph

import "unicode/utf8"

// Next returns the length of the character that begins at an offset; 0, if none does.
func Next(p []byte, at int) int {
	if at < 0 || at >= len(p) {
		return 0
	}
	_, n := utf8.DecodeRune(p[at:])
	return n
}

// Prev returns the length of the character that ends at an offset; 0, if none does.
func Prev(p []byte, at int) int {
	if at <= 0 || at > len(p) {
		return 0
	}
	_, n := utf8.DecodeLastRune(p[:at])
	return n
}

// Floor returns where the character begins that contains an offset; an offset outside the text counts as its nearer end.
func Floor(p []byte, at int) int {
	if at <= 0 {
		return 0
	}
	if at >= len(p) {
		return len(p)
	}
	// A byte that starts a rune is never inside another one, so the nearest such byte decides.
	for back := range min(at+1, utf8.UTFMax) {
		start := at - back
		if !utf8.RuneStart(p[start]) {
			continue
		}
		if start+Next(p, start) > at {
			return start
		}
		break
	}
	return at
}

// Count returns the number of characters.
func Count(p []byte) int {
	return utf8.RuneCount(p)
}

// Blank reports whether a byte is a space or a tab.
func Blank(c byte) bool {
	return c == ' ' || c == '\t'
}

// Step returns the column after a character that begins with the byte c, in the column col.
func Step(col int, c byte, tab int) int {
	if c == '\t' {
		return col + reach(col, tab)
	}
	return col + 1
}

// reach returns how many columns a tab in the column col spans. A tab below 1 counts as 1, so that there is no division by 0.
func reach(col, tab int) int {
	tab = max(tab, 1)
	return tab - col%tab
}

// Wide returns the column after all characters of p, of which the first stands in the column col.
func Wide(p []byte, col, tab int) int {
	for at := 0; at < len(p); at += Next(p, at) {
		col = Step(col, p[at], tab)
	}
	return col
}

// At returns the offset of the character that covers the column col, where p begins in column 0; the end, if none does.
func At(p []byte, col, tab int) int {
	after := 0
	for at := 0; at < len(p); at += Next(p, at) {
		after = Step(after, p[at], tab)
		if after > col {
			return at
		}
	}
	return len(p)
}

// Fill returns blanks that lead from one column to another: tabs where they span two columns or more, unless expand is set; otherwise spaces.
func Fill(from, to, tab int, expand bool) []byte {
	var out []byte
	for from < to {
		// The span is held against what is left, not their sum against to, which could wrap round.
		n := reach(from, tab)
		if expand || n < 2 || n > to-from {
			out = append(out, ' ')
			from++
			continue
		}
		out = append(out, '\t')
		from += n
	}
	return out
}
