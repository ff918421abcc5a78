// Package piece is layer 2: a text as a table of pieces.
package piece

import (
	"slices"

	"platen/api"
)

// part is a piece of the text. It owns its bytes: no two parts share memory, so that one can grow in place, and what was deleted isn't kept.
type part struct {
	text []byte
	// last is the number of its last byte among all that were ever inserted, counted from 1; the bytes of New have numbers up to 0.
	last int
}

// Table is a text in pieces.
type Table struct {
	parts []part
	size  int
	added int // bytes that were ever inserted
}

// New returns a table with the bytes of p. ErrLong: there are more than MaxText.
func New(p []byte) (*Table, api.Errno) {
	if len(p) > api.MaxText {
		return nil, api.ErrLong
	}
	t := &Table{size: len(p)}
	if len(p) > 0 {
		t.parts = []part{{text: own(p)}}
	}
	return t, api.OK
}

// own returns p in memory of its own.
func own(p []byte) []byte {
	q := make([]byte, len(p))
	copy(q, p)
	return q
}

// Len returns the number of bytes.
func (t *Table) Len() int {
	if t == nil {
		return 0
	}
	return t.size
}

// Pieces returns the number of pieces.
func (t *Table) Pieces() int {
	if t == nil {
		return 0
	}
	return len(t.parts)
}

// Insert inserts p at an offset. ErrArg: there is no such offset; ErrLong: there would be more than MaxText bytes.
func (t *Table) Insert(at int, p []byte) api.Errno {
	if t == nil || !t.has(at, 0) {
		return api.ErrArg
	}
	if len(p) > api.MaxText-t.size {
		return api.ErrLong
	}
	if len(p) == 0 {
		return api.OK
	}
	i := t.split(at)
	grows := i > 0 && t.newest(t.parts[i-1])
	t.size += len(p)
	t.added += len(p)
	if grows {
		before := &t.parts[i-1]
		before.text = append(before.text, p...)
		before.last = t.added
	} else {
		t.parts = slices.Insert(t.parts, i, part{text: own(p), last: t.added})
	}
	return api.OK
}

// newest reports whether a part ends with the last byte that any Insert has added. Without an Insert there is none, though the part of New has the number 0, too.
func (t *Table) newest(x part) bool {
	return t.added > 0 && x.last == t.added
}

// Delete removes n bytes from an offset on. ErrArg: they aren't there.
func (t *Table) Delete(at, n int) api.Errno {
	if t == nil || !t.has(at, n) {
		return api.ErrArg
	}
	from := t.split(at)
	to := t.split(at + n)
	t.parts = slices.Delete(t.parts, from, to)
	t.size -= n
	return api.OK
}

// has reports whether there are n bytes from an offset on.
func (t *Table) has(at, n int) bool {
	return at >= 0 && at <= t.Len() && n >= 0 && n <= t.Len()-at
}

// split makes a piece begin at an offset, unless one does, and returns its index; the number of pieces for the end.
func (t *Table) split(at int) int {
	for i := range len(t.parts) {
		if at == 0 {
			return i
		}
		n := len(t.parts[i].text)
		if at < n {
			t.halve(i, at)
			return i + 1
		}
		at -= n
	}
	return len(t.parts)
}

// halve splits a piece after its first n bytes.
func (t *Table) halve(i, n int) {
	x := t.parts[i]
	left := part{text: own(x.text[:n]), last: x.last - (len(x.text) - n)}
	right := part{text: own(x.text[n:]), last: x.last}
	t.parts = slices.Replace(t.parts, i, i+1, left, right)
}

// Bytes returns all bytes.
func (t *Table) Bytes() []byte {
	p, _ := t.Slice(0, t.Len())
	return p
}

// Slice returns n bytes from an offset on; false: they aren't there.
func (t *Table) Slice(at, n int) ([]byte, bool) {
	if !t.has(at, n) {
		return nil, false
	}
	out := make([]byte, n)
	if t == nil {
		return out, true
	}
	done := 0
	for _, x := range t.parts {
		if done == n {
			break
		}
		if at >= len(x.text) {
			at -= len(x.text)
			continue
		}
		done += copy(out[done:], x.text[at:])
		at = 0
	}
	return out, true
}
