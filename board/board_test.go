package board_test

import (
	"math"
	"slices"
	"strings"
	"testing"

	"riverbank/api"
	"riverbank/board"
)

const (
	red   = "KABNRCP"
	black = "kabnrcp"
)

var dots = strings.Repeat(".", 90)

// samples are boards: the start, an empty one, full ones, and ones that have each piece on edges and within.
func samples() []string {
	l := []string{api.Start, dots, strings.Repeat("K", 90), strings.Repeat("p", 90)}
	mixed := []byte(dots)
	for n := range mixed {
		mixed[n] = (red + "." + black + "..")[n*n%17]
	}
	l = append(l, string(mixed))
	for _, c := range []byte(red + black) {
		for _, n := range []int{0, 44, 45, 89} {
			l = append(l, dots[:n]+string(rune(c))+dots[n+1:])
		}
	}
	return l
}

// others are texts that are no boards.
func others() []string {
	s := api.Start
	l := []string{"", ".", "K", s[1:], s[:89], s + ".", s + s, strings.Repeat("é", 45), strings.Repeat("é", 90), strings.Repeat("\x00", 90), strings.Repeat(" ", 90)}
	for _, n := range []int{0, 44, 45, 89} {
		for _, c := range []string{"x", "H", "e", "\x00", "\xff", " ", "/", "1", "-"} {
			l = append(l, s[:n]+c+s[n+1:])
		}
	}
	return l
}

// numbers are all squares, and numbers beside and far from them.
func numbers() []int {
	l := []int{math.MinInt, -1 << 32, 1 << 32, math.MaxInt}
	for n := -100; n <= 190; n++ {
		l = append(l, n)
	}
	return l
}

func isSquare(n int) bool { return 0 <= n && n < 90 }

func sideOf(c byte) int {
	switch {
	case strings.IndexByte(red, c) >= 0:
		return 0
	case strings.IndexByte(black, c) >= 0:
		return 1
	}
	return -1
}

func TestPieces(t *testing.T) {
	for i := range 256 {
		c := byte(i)
		var kind byte
		if k := strings.IndexByte(red+black, c); k >= 0 {
			kind = red[k%7]
		}
		if board.Side(c) != sideOf(c) || board.Kind(c) != kind {
			t.Errorf("P2.1: byte %d: side %d, kind %d", i, board.Side(c), board.Kind(c))
		}
	}
}

func TestFilesAndRanks(t *testing.T) {
	for _, n := range numbers() {
		file, rank := -1, -1
		if isSquare(n) {
			file, rank = n%9, n/9
		}
		if board.File(n) != file || board.Rank(n) != rank {
			t.Errorf("P2.1: %d: file %d, rank %d", n, board.File(n), board.Rank(n))
		}
	}
	if board.File(44) != 8 || board.Rank(44) != 4 || board.File(45) != 0 || board.Rank(45) != 5 {
		t.Error("P2.1: squares 44 and 45")
	}
}

func TestSquare(t *testing.T) {
	l := []int{math.MinInt, -9, -1, 0, 1, 2, 3, 4, 5, 6, 7, 8, 9, 10, 11, 90, 1 << 32, math.MaxInt}
	for _, file := range l {
		for _, rank := range l {
			want := -1
			if 0 <= file && file <= 8 && 0 <= rank && rank <= 9 {
				want = 9*rank + file
			}
			if got := board.Square(file, rank); got != want {
				t.Errorf("P2.1: Square(%d, %d): %d", file, rank, got)
			}
		}
	}
}

func TestIs(t *testing.T) {
	for _, s := range samples() {
		if !board.Is(s) {
			t.Errorf("P2.2: %q is a board", s)
		}
	}
	for _, s := range others() {
		if board.Is(s) {
			t.Errorf("P2.2: %q is none", s)
		}
	}
	for i := range 256 {
		s := dots[:50] + string([]byte{byte(i)}) + dots[51:]
		if board.Is(s) != (i == '.' || sideOf(byte(i)) >= 0) {
			t.Errorf("P2.2: byte %d", i)
		}
	}
}

func TestAt(t *testing.T) {
	if board.At(api.Start, 4) != 'K' || board.At(api.Start, 85) != 'k' {
		t.Error("P2.2: example 1")
	}
	for _, s := range samples() {
		for _, n := range numbers() {
			want := byte('.')
			if isSquare(n) {
				want = s[n]
			}
			if got := board.At(s, n); got != want {
				t.Errorf("P2.2: At(%q, %d): %c", s, n, got)
			}
		}
	}
	for _, s := range others() {
		for _, n := range numbers() {
			if got := board.At(s, n); got != '.' {
				t.Errorf("P2.2: At(%q, %d): %c", s, n, got)
			}
		}
	}
}

func TestPut(t *testing.T) {
	for _, s := range samples()[:6] {
		for _, n := range numbers() {
			for i := range 256 {
				c, want := byte(i), s
				if isSquare(n) && (c == '.' || sideOf(c) >= 0) {
					want = s[:n] + string([]byte{c}) + s[n+1:]
				}
				if got := board.Put(s, n, c); got != want {
					t.Fatalf("P2.2: Put(%q, %d, %d): %q", s, n, i, got)
				}
			}
		}
	}
	for _, s := range others() {
		for _, n := range []int{-1, 0, 40, 44, 45, 89, 90} {
			for _, c := range []byte("Kp.x") {
				if got := board.Put(s, n, c); got != s {
					t.Errorf("P2.2: Put(%q, %d, %c): %q", s, n, c, got)
				}
			}
		}
	}
}

func TestFind(t *testing.T) {
	for _, s := range samples() {
		for i := range 256 {
			var want []int
			for n := range 90 {
				if s[n] == byte(i) {
					want = append(want, n)
				}
			}
			if got := board.Find(s, byte(i)); !slices.Equal(got, want) {
				t.Errorf("P2.3: Find(%q, %d): %v", s, i, got)
			}
		}
	}
	for _, s := range others() {
		for i := range 256 {
			if got := board.Find(s, byte(i)); len(got) != 0 {
				t.Errorf("P2.3: Find(%q, %d): %v", s, i, got)
			}
		}
	}
}

func TestPiecesOfSides(t *testing.T) {
	sides := []int{math.MinInt, -2, -1, 0, 1, 2, 256, 1 << 32, math.MaxInt}
	for _, s := range samples() {
		for _, side := range sides {
			var want []int
			for n := range 90 {
				if s[n] != '.' && sideOf(s[n]) == side {
					want = append(want, n)
				}
			}
			if got := board.Pieces(s, side); !slices.Equal(got, want) {
				t.Errorf("P2.3: Pieces(%q, %d): %v", s, side, got)
			}
		}
	}
	for _, s := range others() {
		for _, side := range sides {
			if got := board.Pieces(s, side); len(got) != 0 {
				t.Errorf("P2.3: Pieces(%q, %d): %v", s, side, got)
			}
		}
	}
}

func TestTurn(t *testing.T) {
	for _, s := range samples() {
		got := board.Turn(s)
		if len(got) != 90 {
			t.Fatalf("P2.3: Turn(%q): %q", s, got)
		}
		for n := range 90 {
			want := s[89-n]
			if i := strings.IndexByte(red+black, want); i >= 0 {
				want = (black + red)[i]
			}
			if got[n] != want {
				t.Errorf("P2.3: Turn(%q), square %d: %c", s, n, got[n])
			}
		}
	}
	for _, s := range others() {
		if got := board.Turn(s); got != "" {
			t.Errorf("P2.3: Turn(%q): %q", s, got)
		}
	}
}

func TestWhatFollows(t *testing.T) {
	for _, s := range samples() {
		if got := board.Turn(board.Turn(s)); got != s {
			t.Errorf("P2.4: %q turned twice: %q", s, got)
		}
		for n := range 90 {
			for _, c := range []byte(red + black + ".") {
				put := board.Put(s, n, c)
				if board.At(put, n) != c || !slices.Contains(board.Find(put, c), n) || !board.Is(put) {
					t.Errorf("P2.4: %c put on %d of %q", c, n, s)
				}
			}
		}
	}
}

func TestListsAreNew(t *testing.T) {
	board.Find(api.Start, 'P')[0] = 50
	board.Pieces(api.Start, api.Red)[0] = 50
	if board.Find(api.Start, 'P')[0] != 27 || board.Pieces(api.Start, api.Red)[0] != 0 {
		t.Error("R5")
	}
}
