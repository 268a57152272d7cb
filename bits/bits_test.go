package bits_test

import (
	"math"
	"slices"
	"testing"

	"riverbank/bits"
)

const (
	squares = 90
	stray   = uint64(math.MaxUint64 &^ (1<<45 - 1)) // the bits that stand for no square
)

// plain tells the squares of a set from the chapter's words alone.
func plain(s bits.Set) []int {
	var l []int
	for n := range 45 {
		if s.Low&(1<<n) != 0 {
			l = append(l, n)
		}
	}
	for n := range 45 {
		if s.High&(1<<n) != 0 {
			l = append(l, n+45)
		}
	}
	return l
}

// those are the squares for which something holds.
func those(holds func(n int) bool) []int {
	var l []int
	for n := range squares {
		if holds(n) {
			l = append(l, n)
		}
	}
	return l
}

// samples are sets of all kinds: at the edges, with and without stray bits, and scattered ones.
func samples() []bits.Set {
	l := []bits.Set{
		{}, {Low: 1}, {Low: 1 << 44}, {High: 1}, {High: 1 << 44},
		{Low: 1<<45 - 1}, {High: 1<<45 - 1}, {Low: 1<<45 - 1, High: 1<<45 - 1},
		{Low: 1 << 45}, {Low: 1 << 63}, {High: 1 << 45}, {High: 1 << 63},
		{Low: math.MaxUint64, High: math.MaxUint64}, {Low: stray, High: stray},
	}
	x := uint64(88172645463325252)
	next := func() uint64 {
		x ^= x << 13
		x ^= x >> 7
		x ^= x << 17
		return x
	}
	for range 12 {
		s := bits.Set{Low: next(), High: next()}
		l = append(l, s, bits.Set{Low: s.Low &^ stray, High: s.High &^ stray}, bits.Set{Low: s.Low & next() & next(), High: s.High & next() & next()})
	}
	return l
}

// numbers are all squares, and numbers beside and far from them.
func numbers() []int {
	l := []int{math.MinInt, math.MinInt + 1, math.MinInt + 89, -1 << 32, 1 << 32, 1<<32 + 5, 1 << 62, math.MaxInt - 89, math.MaxInt - 1, math.MaxInt}
	for n := -200; n <= 200; n++ {
		l = append(l, n)
	}
	return l
}

func isSquare(n int) bool { return 0 <= n && n < squares }

// wantSet holds an answered set against the squares that it must have, and against having stray bits.
func wantSet(t *testing.T, promise string, got bits.Set, want []int) {
	t.Helper()
	if got.Low&stray != 0 || got.High&stray != 0 {
		t.Errorf("%s: bits that stand for no square: %x %x", promise, got.Low, got.High)
	}
	if l := plain(got); !slices.Equal(l, want) {
		t.Errorf("%s: got %v, want %v", promise, l, want)
	}
}

func TestOf(t *testing.T) {
	if s := bits.Of([]int{0, 89}); s != (bits.Set{Low: 1, High: 1 << 44}) {
		t.Errorf("P1.1: example 1: %v", s)
	}
	wantSet(t, "P1.1", bits.Of(nil), nil)
	wantSet(t, "P1.1", bits.Of([]int{}), nil)
	wantSet(t, "P1.1", bits.Of([]int{45, 44}), []int{44, 45})
	wantSet(t, "P1.1", bits.Of([]int{7, 7, 3, 7}), []int{3, 7})
	wantSet(t, "P1.1", bits.Of([]int{-1, 90, 1 << 40, math.MinInt, math.MaxInt, 5}), []int{5})
	wantSet(t, "P1.1", bits.Of(numbers()), those(func(int) bool { return true }))
	for n := range squares {
		wantSet(t, "P1.1", bits.Of([]int{n}), []int{n})
	}
}

func TestOfLeavesItsList(t *testing.T) {
	l := []int{89, -1, 0, 89}
	bits.Of(l)
	if !slices.Equal(l, []int{89, -1, 0, 89}) {
		t.Errorf("R5: %v", l)
	}
}

func TestList(t *testing.T) {
	for _, s := range samples() {
		if l := s.List(); !slices.Equal(l, plain(s)) {
			t.Errorf("P1.1: %x: %v", s, l)
		}
	}
	s := bits.Of([]int{1, 2})
	s.List()[0] = 50
	if !slices.Equal(s.List(), []int{1, 2}) {
		t.Error("R5: a list is no new memory")
	}
}

func TestAsked(t *testing.T) {
	for _, s := range samples() {
		l := plain(s)
		for _, n := range numbers() {
			if s.Has(n) != slices.Contains(l, n) {
				t.Errorf("P1.1: %x: Has(%d)", s, n)
			}
		}
		first, last := -1, -1
		if len(l) > 0 {
			first, last = l[0], l[len(l)-1]
		}
		if s.Count() != len(l) || s.First() != first || s.Last() != last {
			t.Errorf("P1.1: %x: %d squares, from %d to %d", s, s.Count(), s.First(), s.Last())
		}
	}
}

func TestWithAndWithout(t *testing.T) {
	for _, s := range samples() {
		l := plain(s)
		for _, n := range numbers() {
			with := those(func(k int) bool { return slices.Contains(l, k) || k == n })
			without := those(func(k int) bool { return slices.Contains(l, k) && k != n })
			wantSet(t, "P1.2", s.With(n), with)
			wantSet(t, "P1.2", s.Without(n), without)
		}
	}
}

func TestOfTwoSets(t *testing.T) {
	for _, s := range samples() {
		a := plain(s)
		wantSet(t, "P1.2", s.Not(), those(func(n int) bool { return !slices.Contains(a, n) }))
		for _, u := range samples() {
			b := plain(u)
			wantSet(t, "P1.2", s.Or(u), those(func(n int) bool { return slices.Contains(a, n) || slices.Contains(b, n) }))
			wantSet(t, "P1.2", s.And(u), those(func(n int) bool { return slices.Contains(a, n) && slices.Contains(b, n) }))
			wantSet(t, "P1.2", s.Minus(u), those(func(n int) bool { return slices.Contains(a, n) && !slices.Contains(b, n) }))
		}
	}
}

func TestShift(t *testing.T) {
	for _, s := range samples() {
		for _, n := range numbers() {
			var want []int
			for _, k := range plain(s) {
				if -squares < n && n < squares && isSquare(k+n) {
					want = append(want, k+n)
				}
			}
			wantSet(t, "P1.3", s.Shift(n), want)
		}
	}
	s := bits.Of([]int{0, 44, 45, 89})
	wantSet(t, "P1.3", s.Shift(1), []int{1, 45, 46})
	wantSet(t, "P1.3", s.Shift(-1), []int{43, 44, 88})
	wantSet(t, "P1.3", s.Shift(45), []int{45, 89})
	wantSet(t, "P1.3", s.Shift(89), []int{89})
	wantSet(t, "P1.3", s.Shift(-89), []int{0})
}

func TestBetween(t *testing.T) {
	bounds := []int{math.MinInt, -91, -2, -1, 0, 1, 2, 7, 43, 44, 45, 46, 47, 87, 88, 89, 90, 91, 200, math.MaxInt}
	for _, s := range samples() {
		l := plain(s)
		for _, a := range bounds {
			for _, b := range bounds {
				want := those(func(n int) bool {
					return slices.Contains(l, n) && (a < n && n < b || b < n && n < a)
				})
				wantSet(t, "P1.3", s.Between(a, b), want)
			}
		}
	}
}

func TestSetOfItsList(t *testing.T) {
	for _, s := range samples() {
		if got, want := bits.Of(s.List()), (bits.Set{Low: s.Low &^ stray, High: s.High &^ stray}); got != want {
			t.Errorf("P1.4: %x: %x", want, got)
		}
	}
}

func TestAskingChangesNothing(t *testing.T) {
	s := bits.Set{Low: math.MaxUint64, High: 5}
	u := s
	s.With(3)
	s.Without(0)
	s.Or(bits.Set{High: 2})
	s.And(bits.Set{})
	s.Minus(s)
	s.Not()
	s.Shift(3)
	s.Between(3, 4)
	if s != u {
		t.Errorf("R5: %x", s)
	}
}
