// Package pos is layer 1: lines and columns: see shared/doc/01-pos.md.
package pos

import (
	"sort"
	"strings"

	"quoin/api"
)

// Lines are a text's.
type Lines struct {
	text string
	// behind holds the offset after each byte 10, in increasing order. The first line is left out, so that a zero Lines is that of the empty text.
	behind []int
}

// New are those of a text.
func New(text string) *Lines {
	// A copy: R4 lets no argument be retained.
	return &Lines{text: strings.Clone(text), behind: breaks(text)}
}

// breaks are the offsets after the bytes 10 of a text.
func breaks(text string) []int {
	var found []int
	// Going by runes misses no byte 10: it is no part of a longer rune, and a byte that is no UTF-8 counts as one of its own.
	for at, r := range text {
		if r == '\n' {
			found = append(found, at+1)
		}
	}
	return found[:len(found):len(found)]
}

// Place is a byte's line and column.
func (l *Lines) Place(at int) (line, col int, e api.Errno) {
	if l == nil {
		return 0, 0, api.ErrArg
	}
	if at < 0 || at > len(l.text) {
		return 0, 0, api.ErrPosPlace
	}
	line = 1 + sort.Search(len(l.behind), func(i int) bool { return l.behind[i] > at })
	return line, at - l.begin(line) + 1, api.OK
}

// At is the byte at a line and column.
func (l *Lines) At(line, col int) (int, api.Errno) {
	if l == nil {
		return 0, api.ErrArg
	}
	if !l.has(line) {
		return 0, api.ErrPosPlace
	}
	begin := l.begin(line)
	if col < 1 || col > l.end(line)-begin+1 {
		return 0, api.ErrPosPlace
	}
	return begin + col - 1, api.OK
}

// Count is how many there are.
func (l *Lines) Count() int {
	if l == nil {
		return 0
	}
	return len(l.behind) + 1
}

// Line is one of them.
func (l *Lines) Line(n int) (string, api.Errno) {
	if l == nil {
		return "", api.ErrArg
	}
	if !l.has(n) {
		return "", api.ErrPosPlace
	}
	// A copy, so that a line that is kept does not keep the whole text.
	return strings.Clone(l.text[l.begin(n):l.end(n)]), api.OK
}

// has tells whether there is a line n.
func (l *Lines) has(n int) bool {
	return n >= 1 && n <= l.Count()
}

// begin is the offset of the first byte of line n, which must be there.
func (l *Lines) begin(n int) int {
	if n == 1 {
		return 0
	}
	return l.behind[n-2]
}

// end is the offset after the last byte of line n, which must be there.
func (l *Lines) end(n int) int {
	if n == l.Count() {
		return len(l.text)
	}
	return l.behind[n-1] - 1
}
