// Package board is layer 2, pieces on squares: see shared/doc/02-board.md.
package board

import (
	"riverbank/api"
	"riverbank/bits"
)

const (
	empty = '.'
	small = 'a' - 'A' // what a black letter is above the red one
)

// Is tells whether a text is a board.
func Is(cells string) bool {
	if len(cells) != api.Squares {
		return false
	}
	for n := range api.Squares {
		if !fills(cells[n]) {
			return false
		}
	}
	return true
}

// At is what stands on a square; Put a board with something on it.
func At(cells string, n int) byte {
	if !isSquare(n) || !Is(cells) {
		return empty
	}
	return cells[n]
}

func Put(cells string, n int, c byte) string {
	if !isSquare(n) || !fills(c) || !Is(cells) {
		return cells
	}
	put := []byte(cells)
	put[n] = c
	return string(put)
}

// Side is a piece's, Kind its red letter.
func Side(c byte) int {
	switch Kind(c) {
	case 0:
		return -1
	case c:
		return api.Red
	}
	return api.Black
}

func Kind(c byte) byte {
	switch c {
	case 'k', 'a', 'b', 'n', 'r', 'c', 'p':
		c -= small
		fallthrough
	case 'K', 'A', 'B', 'N', 'R', 'C', 'P':
		return c
	}
	return 0
}

// File and Rank are a square's, Square is theirs.
func File(n int) int {
	if !isSquare(n) {
		return -1
	}
	return n % api.Files
}

func Rank(n int) int {
	if !isSquare(n) {
		return -1
	}
	return n / api.Files
}

func Square(file int, rank int) int {
	if file < 0 || file >= api.Files || rank < 0 || rank >= api.Ranks {
		return -1
	}
	return rank*api.Files + file
}

// Find are the squares of a piece, Pieces those of a side.
func Find(cells string, c byte) []int {
	return where(cells, func(on byte) bool { return on == c })
}

func Pieces(cells string, side int) []int {
	// Side says -1 of an empty square, which is nobody's.
	return where(cells, func(on byte) bool { return on != empty && Side(on) == side })
}

// Turn is a board from the other side.
func Turn(cells string) string {
	if !Is(cells) {
		return ""
	}
	turned := make([]byte, api.Squares)
	for n := range api.Squares {
		turned[n] = swapped(cells[api.Squares-1-n])
	}
	return string(turned)
}

// where are the squares of a board on which something stands that fits, rising.
func where(cells string, fits func(on byte) bool) []int {
	if !Is(cells) {
		return nil
	}
	var found bits.Set
	for n := range api.Squares {
		if fits(cells[n]) {
			found = found.With(n)
		}
	}
	return found.List()
}

// swapped is the other side's piece of the same kind; an empty square stays empty.
func swapped(c byte) byte {
	switch Side(c) {
	case api.Red:
		return c + small
	case api.Black:
		return c - small
	}
	return c
}

// fills tells whether a byte may stand on a square of a board.
func fills(c byte) bool { return c == empty || Kind(c) != 0 }

func isSquare(n int) bool { return n >= 0 && n < api.Squares }
