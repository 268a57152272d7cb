package place_test

import (
	"math"
	"slices"
	"strings"
	"testing"

	"riverbank/api"
	"riverbank/board"
	"riverbank/place"
)

const pieces = "KABNRCPkabnrcp"

// bare is a board with both generals alone, on 4 and 85.
var bare = board.Put(board.Put(strings.Repeat(".", 90), 4, 'K'), 85, 'k')

// span are the numbers from one to another, both of them among these.
func span(from int, to int) []int {
	var l []int
	for n := from; n <= to; n++ {
		l = append(l, n)
	}
	return l
}

// points are the squares of each piece, written out from the chapter's words.
func points() map[byte][]int {
	m := map[byte][]int{
		'K': {3, 4, 5, 12, 13, 14, 21, 22, 23},
		'k': {66, 67, 68, 75, 76, 77, 84, 85, 86},
		'A': {3, 5, 13, 21, 23},
		'a': {66, 68, 76, 84, 86},
		'B': {2, 6, 18, 22, 26, 38, 42},
		'b': {47, 51, 63, 67, 71, 83, 87},
		'P': append([]int{27, 29, 31, 33, 35, 36, 38, 40, 42, 44}, span(45, 89)...),
		'p': append(span(0, 44), 45, 47, 49, 51, 53, 54, 56, 58, 60, 62),
	}
	for _, c := range []byte("NRCnrc") {
		m[c] = span(0, 89)
	}
	return m
}

// numbers are all squares, and numbers beside and far from them.
func numbers() []int {
	return append([]int{math.MinInt, math.MinInt + 4, math.MinInt + 89, -1 << 32, 1 << 32, 1<<32 + 4, math.MaxInt - 89, math.MaxInt}, span(-100, 190)...)
}

func sides() []int { return []int{math.MinInt, -2, -1, 0, 1, 2, 3, 256, 1 << 32, math.MaxInt} }

// with is a board on which pieces are put, a letter and a square each in turn.
func with(cells string, letters string, squares ...int) string {
	for i, n := range squares {
		cells = board.Put(cells, n, letters[i])
	}
	return cells
}

func wantCheck(t *testing.T, promise string, p api.Position, want api.Errno) {
	t.Helper()
	if got := place.Check(p); got != want {
		t.Errorf("%s: %#v: got %d, want %d", promise, p, got, want)
	}
}

func wantCells(t *testing.T, cells string, want api.Errno) {
	t.Helper()
	wantCheck(t, "P3.2", api.Position{Cells: cells, Full: 1}, want)
}

func TestPalace(t *testing.T) {
	palaces := map[int][]int{0: points()['K'], 1: points()['k']}
	for _, side := range sides() {
		for _, n := range numbers() {
			if got := place.Palace(n, side); got != slices.Contains(palaces[side], n) {
				t.Errorf("P3.1: Palace(%d, %d): %v", n, side, got)
			}
		}
	}
}

func TestOver(t *testing.T) {
	beyond := map[int][]int{0: span(45, 89), 1: span(0, 44)}
	for _, side := range sides() {
		for _, n := range numbers() {
			if got := place.Over(n, side); got != slices.Contains(beyond[side], n) {
				t.Errorf("P3.1: Over(%d, %d): %v", n, side, got)
			}
		}
	}
}

func TestMayAndPoints(t *testing.T) {
	want := points()
	for i := range 256 {
		c := byte(i)
		if got := place.Points(c); !slices.Equal(got, want[c]) {
			t.Errorf("P3.1: Points(%q): %v", c, got)
		}
		for _, n := range numbers() {
			if got := place.May(c, n); got != slices.Contains(want[c], n) {
				t.Errorf("P3.1: May(%q, %d): %v", c, n, got)
			}
		}
	}
}

func TestPointsAreNew(t *testing.T) {
	place.Points('B')[0] = 50
	if place.Points('B')[0] != 2 {
		t.Error("R5: points are no new memory")
	}
}

func TestMost(t *testing.T) {
	want := map[byte]int{'K': 1, 'k': 1, 'P': 5, 'p': 5}
	for _, c := range []byte("ABNRCabnrc") {
		want[c] = 2
	}
	for i := range 256 {
		if got := place.Most(byte(i)); got != want[byte(i)] {
			t.Errorf("P3.1: Most(%q): %d", byte(i), got)
		}
	}
}

func TestCheckOfArguments(t *testing.T) {
	good := api.Position{Cells: api.Start, Full: 1}
	for _, n := range []int{math.MinInt, -1 << 32, -121, -2, -1, 0, 1, 2, 3, 119, 120, 121, 122, 256, 9998, 9999, 10000, 10001, 1 << 32, 1<<32 + 1, math.MaxInt} {
		side, clock, full := good, good, good
		side.Side, clock.Clock, full.Full = n, n, n
		wantCheck(t, "P3.2", side, argument(n == 0 || n == 1))
		wantCheck(t, "P3.2", clock, argument(0 <= n && n <= 120))
		wantCheck(t, "P3.2", full, argument(1 <= n && n <= 9999))
	}
	wantCheck(t, "P3.2", api.Position{}, api.ErrArg)
	wantCheck(t, "P3.2", api.Position{Cells: api.Start, Side: 1, Clock: 120, Full: 9999}, api.OK)
	for _, cells := range []string{"", "K", api.Start[1:], api.Start + ".", api.Start + api.Start, strings.Replace(api.Start, "N", "H", 1), strings.Replace(api.Start, ".", " ", 1), strings.Replace(api.Start, ".", "\x00", 1), strings.Replace(api.Start, "r", "\xff", 1)} {
		wantCells(t, cells, api.ErrArg)
	}
}

func argument(right bool) api.Errno {
	if right {
		return api.OK
	}
	return api.ErrArg
}

func TestCheckOfCounts(t *testing.T) {
	wantCells(t, bare, api.OK)
	wantCells(t, strings.Repeat(".", 90), api.ErrCount)
	wantCells(t, with(bare, ".", 4), api.ErrCount)
	wantCells(t, with(bare, ".", 85), api.ErrCount)
	wantCells(t, with(bare, "K", 13), api.ErrCount)
	wantCells(t, with(bare, "k", 76), api.ErrCount)
	for c, l := range points() {
		m := 2
		switch c {
		case 'K', 'k':
			m = 0 // beside the one that is there
		case 'P', 'p':
			m = 5
		}
		// A square that holds a general is passed over, so that the generals stay.
		free := slices.DeleteFunc(l, func(n int) bool { return bare[n] != '.' })
		letters := strings.Repeat(string(rune(c)), m+1)
		for k := range m + 1 {
			wantCells(t, with(bare, letters, free[:k]...), api.OK)
		}
		wantCells(t, with(bare, letters, free[:m+1]...), api.ErrCount)
		wantCells(t, with(bare, letters, free[len(free)-m-1:]...), api.ErrCount)
	}
	// One side's pieces are not counted with the other's.
	wantCells(t, with(bare, "RRrrCCccNNnn", 30, 31, 32, 33, 34, 35, 36, 37, 38, 39, 40, 41), api.OK)
}

func TestCheckOfPlaces(t *testing.T) {
	want := points()
	for _, c := range []byte(pieces) {
		for n := range 90 {
			cells := bare
			switch {
			case c == 'K':
				cells = with(bare, ".", 4)
			case c == 'k':
				cells = with(bare, ".", 85)
			case bare[n] != '.':
				continue
			}
			e := api.ErrPlace
			switch {
			case cells[n] != '.':
				e = api.ErrCount // the other general is gone
			case slices.Contains(want[c], n):
				e = api.OK
			}
			wantCells(t, with(cells, string(rune(c)), n), e)
		}
	}
	wantCells(t, api.Start, api.OK)
	wantCells(t, with(api.Start, "BR", 0, 2), api.ErrPlace)
	// What faces or attacks is of no moment here.
	wantCells(t, with(bare, "R", 84), api.OK)
}

func TestFirstOfSeveralErrors(t *testing.T) {
	misplaced := with(bare, "P", 0)
	crowded := with(bare, "AAA", 3, 5, 13)
	both := with(bare, "AAA", 3, 5, 50)
	wantCells(t, misplaced, api.ErrPlace)
	wantCells(t, crowded, api.ErrCount)
	wantCells(t, both, api.ErrCount)
	wantCells(t, with(misplaced, ".", 85), api.ErrCount)
	for _, cells := range []string{misplaced, crowded, both} {
		wantCheck(t, "R2", api.Position{Cells: cells, Side: 2, Full: 1}, api.ErrArg)
		wantCheck(t, "R2", api.Position{Cells: cells, Clock: 121, Full: 1}, api.ErrArg)
		wantCheck(t, "R2", api.Position{Cells: cells, Clock: -1, Full: 1}, api.ErrArg)
		wantCheck(t, "R2", api.Position{Cells: cells, Full: 10000}, api.ErrArg)
		wantCheck(t, "R2", api.Position{Cells: cells}, api.ErrArg)
		wantCheck(t, "R2", api.Position{Cells: cells + ".", Full: 1}, api.ErrArg)
	}
}

func TestTurnedIsAsRight(t *testing.T) {
	told := map[api.Errno]int{}
	for i := range 90 {
		for _, c := range []byte(pieces + ".") {
			for _, cells := range []string{api.Start, bare} {
				for _, clock := range []int{0, 121} {
					p := api.Position{Cells: board.Put(cells, i, c), Side: i % 2, Clock: clock, Full: 1}
					q := api.Position{Cells: board.Turn(p.Cells), Side: 1 - p.Side, Clock: clock, Full: 1}
					e := place.Check(p)
					told[e]++
					wantCheck(t, "P3.3", q, e)
				}
			}
		}
	}
	for _, e := range []api.Errno{api.OK, api.ErrArg, api.ErrCount, api.ErrPlace} {
		if told[e] == 0 {
			t.Errorf("P3.3: no position tells %d", e)
		}
	}
	for n := range 90 {
		for i := range 7 {
			if place.May(pieces[i], n) != place.May(pieces[i+7], 89-n) {
				t.Errorf("P3.3: %c on %d", pieces[i], n)
			}
		}
	}
}
