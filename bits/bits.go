// Package bits is layer 1, sets of squares: see shared/doc/01-bits.md.
package bits

import (
	"iter"
	"math/bits"

	"riverbank/api"
)

// half is how many squares a word holds, word the bits that stand for them.
const (
	half = api.Squares / 2
	word = 1<<half - 1
)

// Set is a set of squares: Low has the squares 0 to 44, High 45 to 89, the lowest bit the lowest square.
type Set struct {
	Low  uint64
	High uint64
}

// Of is the set of the squares in a list.
func Of(l []int) Set {
	var s Set
	for _, n := range l {
		s = s.With(n)
	}
	return s
}

// List are the squares, rising.
func (s Set) List() []int {
	var l []int
	for n := range s.squares() {
		l = append(l, n)
	}
	return l
}

// Has tells whether a square is in the set.
func (s Set) Has(n int) bool { return s.And(single(n)) != Set{} }

// With is the set with a square, Without the set without it.
func (s Set) With(n int) Set { return s.Or(single(n)) }

func (s Set) Without(n int) Set { return s.Minus(single(n)) }

// Or is what is in one set at least, And what is in both, Minus what is in the first alone, Not what is not in it.
func (s Set) Or(t Set) Set { return Set{Low: s.Low | t.Low, High: s.High | t.High}.clean() }

func (s Set) And(t Set) Set { return Set{Low: s.Low & t.Low, High: s.High & t.High}.clean() }

func (s Set) Minus(t Set) Set { return Set{Low: s.Low &^ t.Low, High: s.High &^ t.High}.clean() }

func (s Set) Not() Set { return Set{Low: ^s.Low, High: ^s.High}.clean() }

// Count is how many squares there are.
func (s Set) Count() int {
	c := s.clean()
	return bits.OnesCount64(c.Low) + bits.OnesCount64(c.High)
}

// First is the least square, Last the greatest one; -1: there is none.
func (s Set) First() int {
	for n := range s.squares() {
		return n
	}
	return -1
}

func (s Set) Last() int {
	last := -1
	for n := range s.squares() {
		last = n
	}
	return last
}

// Shift are the squares that lie n above those of the set.
func (s Set) Shift(n int) Set {
	// Beyond the board nothing is left, and k + n could wrap round.
	if n <= -api.Squares || n >= api.Squares {
		return Set{}
	}
	var t Set
	for k := range s.squares() {
		t = t.With(k + n)
	}
	return t
}

// Between are the squares of the set that lie between two bounds, the bounds left out.
func (s Set) Between(a int, b int) Set {
	low, high := min(a, b), max(a, b)
	var t Set
	for n := range s.squares() {
		if low < n && n < high {
			t = t.With(n)
		}
	}
	return t
}

// squares yields the squares, rising.
func (s Set) squares() iter.Seq[int] {
	return func(yield func(int) bool) {
		c := s.clean()
		for w := c.Low; w != 0; w &= w - 1 {
			if !yield(bits.TrailingZeros64(w)) {
				return
			}
		}
		for w := c.High; w != 0; w &= w - 1 {
			if !yield(half + bits.TrailingZeros64(w)) {
				return
			}
		}
	}
}

// single is the set of one square. It is empty where n is none, so that callers need not ask.
func single(n int) Set {
	switch {
	case n < 0 || n >= api.Squares:
		return Set{}
	case n < half:
		return Set{Low: 1 << n}
	}
	return Set{High: 1 << (n - half)}
}

// clean drops the bits that stand for no square: a caller may have set them.
func (s Set) clean() Set { return Set{Low: s.Low & word, High: s.High & word} }
