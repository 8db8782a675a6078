// Package word is layer 1: see shared/doc/01-word.md.
package word

import (
	"iter"
	"slices"
	"strconv"

	"mudlark/api"
)

// What stands ahead of the digits in the texts of words that are no atoms.
const (
	cellMark  = "#"
	otherMark = "?"
)

// Atom is an atom's word; nil of a number that no atom has.
func Atom(k int) api.Word {
	if k < 0 {
		return api.Nil
	}
	return api.Word(k) << 1
}

// Cell is a cell's word; nil of a number that no cell has.
func Cell(i int) api.Word {
	if i < 0 || i >= api.MaxCells {
		return api.Nil
	}
	return odd(api.Word(i))
}

// IsAtom tells whether a word is an atom, and its number.
func IsAtom(w api.Word) (int, bool) {
	if isOdd(w) {
		return 0, false
	}
	return int(half(w)), true
}

// IsCell tells whether a word is a cell, and its number.
func IsCell(w api.Word) (int, bool) {
	if !isOdd(w) || half(w) >= api.MaxCells {
		return 0, false
	}
	return int(half(w)), true
}

// Text is a word's text.
func Text(w api.Word) string {
	return mark(w) + strconv.FormatUint(uint64(half(w)), 10)
}

// Parse is the word of a text.
func Parse(s string) (api.Word, api.Errno) {
	w, ok := read(s)
	// A text that can be read may still be no word's: noughts ahead, or the mark of another kind.
	if !ok || Text(w) != s {
		return api.Nil, api.ErrForm
	}
	return w, api.OK
}

// Cells are the numbers of those words that are cells.
func Cells(l ...api.Word) iter.Seq[int] {
	// The caller may write over the list before the answer is gone through.
	words := slices.Values(slices.Clone(l))
	return func(yield func(int) bool) {
		for w := range words {
			if i, ok := IsCell(w); ok && !yield(i) {
				return
			}
		}
	}
}

func half(w api.Word) api.Word {
	return w >> 1
}

func odd(h api.Word) api.Word {
	return h<<1 | 1
}

func isOdd(w api.Word) bool {
	return w&1 == 1
}

func mark(w api.Word) string {
	if _, ok := IsAtom(w); ok {
		return ""
	}
	if _, ok := IsCell(w); ok {
		return cellMark
	}
	return otherMark
}

// read is the word that a text may mean: the only one that can have it as its text.
func read(s string) (api.Word, bool) {
	if s == "" {
		return 0, false
	}
	switch s[:1] {
	case cellMark, otherMark:
		h, ok := readHalf(s[1:])
		return odd(h), ok
	}
	h, ok := readHalf(s)
	return h << 1, ok
}

func readHalf(s string) (api.Word, bool) {
	const bits = 63 // a word without its lowest bit
	h, err := strconv.ParseUint(s, 10, bits)
	return api.Word(h), err == nil
}
