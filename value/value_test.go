package value_test

import (
	"math"
	"strings"
	"testing"

	"riverbank/api"
	"riverbank/board"
	"riverbank/legal"
	"riverbank/value"
)

const (
	red     = "KABNRCP"
	letters = "KABNRCPkabnrcp"
)

// kinds are what red's letters are worth.
var kinds = map[byte]int{'K': 0, 'A': 40, 'B': 40, 'N': 90, 'C': 95, 'R': 200, 'P': 30}

// pawns are what a pawn is worth on each square, its own rank the first one.
var pawns = [90]int{
	30, 30, 30, 30, 30, 30, 30, 30, 30,
	30, 30, 30, 30, 30, 30, 30, 30, 30,
	30, 30, 30, 30, 30, 30, 30, 30, 30,
	30, 30, 30, 30, 30, 30, 30, 30, 30,
	30, 30, 30, 30, 30, 30, 30, 30, 30,
	70, 70, 70, 80, 80, 80, 70, 70, 70,
	70, 70, 70, 80, 80, 80, 70, 70, 70,
	70, 70, 70, 80, 80, 80, 70, 70, 70,
	70, 70, 70, 80, 80, 80, 70, 70, 70,
	70, 70, 70, 80, 80, 80, 70, 70, 70,
}

// rovers are what a horse, a cannon or a chariot is worth more on each square.
var rovers = [90]int{
	0, 1, 2, 3, 4, 3, 2, 1, 0,
	1, 2, 3, 4, 5, 4, 3, 2, 1,
	2, 3, 4, 5, 6, 5, 4, 3, 2,
	3, 4, 5, 6, 7, 6, 5, 4, 3,
	4, 5, 6, 7, 8, 7, 6, 5, 4,
	5, 6, 7, 8, 9, 8, 7, 6, 5,
	6, 7, 8, 9, 10, 9, 8, 7, 6,
	7, 8, 9, 10, 11, 10, 9, 8, 7,
	8, 9, 10, 11, 12, 11, 10, 9, 8,
	9, 10, 11, 12, 13, 12, 11, 10, 9,
}

// plainPiece is what a piece on a square is worth; 0 of what is none.
func plainPiece(c byte, n int) int {
	if strings.IndexByte(letters, c) < 0 || n < 0 || n >= 90 {
		return 0
	}
	if c >= 'a' {
		c, n = c-'a'+'A', 89-n
	}
	switch c {
	case 'P':
		return pawns[n]
	case 'N', 'C', 'R':
		return kinds[c] + rovers[n]
	}
	return kinds[c]
}

// plainOf is what a board is worth to a side.
func plainOf(cells string, side int) int {
	sums := [2]int{}
	for n := range len(cells) {
		if cells[n] >= 'a' {
			sums[1] += plainPiece(cells[n], n)
		} else {
			sums[0] += plainPiece(cells[n], n)
		}
	}
	if side == 0 {
		return sums[0] - sums[1]
	}
	return sums[1] - sums[0]
}

// random is a row of numbers that is the same each time.
type random uint64

// below is its next one, from 0 on.
func (r *random) below(n int) int {
	*r ^= *r << 13
	*r ^= *r >> 7
	*r ^= *r << 17
	return int(*r % random(n))
}

// boards are boards of all kinds, most of which no game comes to.
func boards() []string {
	l := []string{api.Start, strings.Repeat(".", 90)}
	for i := range letters {
		l = append(l, strings.Repeat(letters[i:i+1], 90))
	}
	r := random(88172645463325252)
	for i := range 200 {
		cells := []byte(strings.Repeat(".", 90))
		for n := range cells {
			if r.below(10) <= i%10 {
				cells[n] = letters[r.below(14)]
			}
		}
		l = append(l, string(cells))
	}
	return l
}

// nowhere are numbers that are no squares.
func nowhere() []int {
	return []int{math.MinInt, math.MinInt + 1, -1 << 32, -256, -91, -90, -9, -5, -1, 90, 91, 94, 99, 179, 180, 255, 256, 1 << 32, 1<<32 + 18, math.MaxInt - 9, math.MaxInt}
}

func want(t *testing.T, what string, got int, want int) {
	t.Helper()
	if got != want {
		t.Errorf("%s: got %d, want %d", what, got, want)
	}
}

func TestKind(t *testing.T) {
	for i := range 256 {
		c := byte(i)
		worth := 0
		if k := strings.IndexByte(letters, c); k >= 0 {
			worth = kinds[red[k%7]]
		}
		want(t, "P14.1: Kind of "+string(rune(c)), value.Kind(c), worth)
	}
}

func TestPiece(t *testing.T) {
	for i := range 256 {
		c := byte(i)
		for n := range 90 {
			if got := value.Piece(c, n); got != plainPiece(c, n) {
				t.Errorf("P14.1: %q on %d: got %d, want %d", c, n, got, plainPiece(c, n))
			}
		}
		for _, n := range nowhere() {
			if got := value.Piece(c, n); got != 0 {
				t.Errorf("P14.1: %q on %d: got %d", c, n, got)
			}
		}
	}
}

func TestPieceOnSomeSquares(t *testing.T) {
	for _, s := range []struct {
		c    byte
		n    int
		want int
	}{
		// A pawn at home, on the last rank ahead of the river, on the first one beyond it, and on the last of all.
		{'P', 27, 30}, {'P', 31, 30}, {'P', 36, 30}, {'P', 40, 30}, {'P', 44, 30}, {'P', 45, 70}, {'P', 47, 70}, {'P', 48, 80}, {'P', 49, 80}, {'P', 50, 80}, {'P', 51, 70}, {'P', 53, 70}, {'P', 81, 70}, {'P', 85, 80}, {'P', 89, 70},
		{'p', 62, 30}, {'p', 58, 30}, {'p', 53, 30}, {'p', 49, 30}, {'p', 45, 30}, {'p', 44, 70}, {'p', 42, 70}, {'p', 41, 80}, {'p', 40, 80}, {'p', 39, 80}, {'p', 38, 70}, {'p', 36, 70}, {'p', 8, 70}, {'p', 4, 80}, {'p', 0, 70},
		{'N', 0, 90}, {'N', 4, 94}, {'N', 8, 90}, {'N', 81, 99}, {'N', 85, 103}, {'N', 89, 99}, {'N', 20, 94},
		{'n', 0, 99}, {'n', 4, 103}, {'n', 8, 99}, {'n', 81, 90}, {'n', 85, 94}, {'n', 89, 90}, {'n', 69, 94},
		{'C', 0, 95}, {'C', 22, 101}, {'C', 40, 103}, {'C', 49, 104}, {'C', 53, 100}, {'C', 89, 104},
		{'c', 0, 104}, {'c', 67, 101}, {'c', 49, 103}, {'c', 40, 104}, {'c', 44, 100}, {'c', 89, 95},
		{'R', 0, 200}, {'R', 8, 200}, {'R', 4, 204}, {'R', 85, 213}, {'R', 45, 205}, {'R', 36, 204},
		{'r', 0, 209}, {'r', 8, 209}, {'r', 4, 213}, {'r', 85, 204}, {'r', 45, 204}, {'r', 36, 205},
		{'A', 13, 40}, {'a', 76, 40}, {'B', 22, 40}, {'b', 67, 40}, {'K', 4, 0}, {'k', 85, 0},
		// Where they never come to they are worth the same.
		{'A', 85, 40}, {'a', 4, 40}, {'B', 89, 40}, {'b', 0, 40}, {'K', 85, 0}, {'k', 4, 0}, {'P', 0, 30}, {'P', 4, 30}, {'p', 85, 30}, {'p', 89, 30},
		{'.', 4, 0}, {0, 4, 0}, {'x', 4, 0}, {'E', 4, 0}, {'h', 4, 0}, {0xff, 4, 0}, {'R', 90, 0}, {'R', -1, 0},
	} {
		if got := value.Piece(s.c, s.n); got != s.want {
			t.Errorf("P14.1: %q on %d: got %d, want %d", s.c, s.n, got, s.want)
		}
	}
}

func TestPieceFromTheOtherSide(t *testing.T) {
	for i := range red {
		for n := range 90 {
			want(t, "P14.4: "+red[i:i+1], value.Piece(red[i]-'A'+'a', 89-n), value.Piece(red[i], n))
		}
	}
}

func TestOf(t *testing.T) {
	want(t, "P14.2: example 1", value.Of(api.Position{Cells: api.Start, Full: 1}), 0)
	want(t, "P14.2: example 1", value.Of(api.Position{Cells: api.Start, Side: 1, Full: 1}), 0)
	// A chariot behind its own rank, and a pawn in the palace of the other side.
	cells := board.Put(board.Put(strings.Repeat(".", 90), 85, 'P'), 4, 'r')
	want(t, "P14.2", value.Of(api.Position{Cells: cells}), 80-213)
	want(t, "P14.2", value.Of(api.Position{Cells: cells, Side: 1}), 213-80)
	for _, s := range boards() {
		for side := range 2 {
			want(t, "P14.2", value.Of(api.Position{Cells: s, Side: side, Full: 1}), plainOf(s, side))
		}
	}
}

func TestOfEachPiece(t *testing.T) {
	dots := strings.Repeat(".", 90)
	for i := range letters {
		for n := range 90 {
			cells := dots[:n] + letters[i:i+1] + dots[n+1:]
			worth := value.Piece(letters[i], n)
			if i >= 7 {
				worth = -worth
			}
			want(t, "P14.2", value.Of(api.Position{Cells: cells}), worth)
			want(t, "P14.2", value.Of(api.Position{Cells: cells, Side: 1}), -worth)
		}
	}
}

func TestOfSidesAndCounts(t *testing.T) {
	for _, cells := range boards()[10:40] {
		for _, side := range []int{math.MinInt, -1 << 32, -2, -1, 1, 2, 3, 256, 1 << 32, 1<<32 + 1, math.MaxInt} {
			want(t, "P14.2: no red", value.Of(api.Position{Cells: cells, Side: side}), plainOf(cells, 1))
		}
		for _, n := range []int{math.MinInt, -1, 0, 1, 7, 120, 121, 9999, 10000, math.MaxInt} {
			want(t, "P14.2: Clock", value.Of(api.Position{Cells: cells, Clock: n}), plainOf(cells, 0))
			want(t, "P14.2: Full", value.Of(api.Position{Cells: cells, Full: n, Side: 1}), plainOf(cells, 1))
		}
	}
}

func TestOfNoBoards(t *testing.T) {
	s := strings.Repeat("R", 90)
	l := []string{"", "K", "R", ".", s[:89], s + ".", s + s, strings.Repeat("\x00", 90), strings.Repeat("é", 45), strings.Repeat("é", 90)}
	for _, n := range []int{0, 44, 45, 89} {
		for _, c := range []string{"x", "H", "e", "\x00", "\xff", " "} {
			l = append(l, s[:n]+c+s[n+1:])
		}
	}
	for _, cells := range l {
		for side := -1; side <= 2; side++ {
			want(t, "P14.2: no board", value.Of(api.Position{Cells: cells, Side: side, Full: 1}), 0)
		}
	}
}

func TestMoved(t *testing.T) {
	pieces := []byte(letters + ".x\x00\xff")
	squares := append(nowhere(), 0, 4, 8, 40, 44, 45, 48, 85, 89)
	values := []int{0, 1, -1, 95, -1000, 1 << 40, math.MaxInt, math.MinInt, math.MinInt + 1}
	for i, c := range pieces {
		for k, taken := range pieces {
			for _, from := range squares {
				for _, to := range squares {
					v := values[(i+k+from&7+to&7)%len(values)]
					m := api.Move{From: from, To: to}
					plain := -(v - plainPiece(c, from) + plainPiece(c, to) + plainPiece(taken, to))
					if got := value.Moved(v, c, m, taken); got != plain {
						t.Errorf("P14.3: %d, %q, %v, %q: got %d, want %d", v, c, m, taken, got, plain)
					}
				}
			}
		}
	}
}

func TestMovedOfSomeMoves(t *testing.T) {
	// From the start the cannon takes a horse: it is worth 98 on 19, 105 on 82; the horse there 91.
	want(t, "P14.3", value.Moved(0, 'C', api.Move{From: 19, To: 82}, 'n'), -(0 - 98 + 105 + 91))
	want(t, "P14.3: back by a chariot", value.Moved(-98, 'r', api.Move{From: 81, To: 82}, 'C'), -(-98 - 200 + 201 + 105))
	want(t, "P14.3: over the river", value.Moved(7, 'P', api.Move{From: 40, To: 49}, 0), -(7 - 30 + 80))
	want(t, "P14.3: a general", value.Moved(7, 'K', api.Move{From: 4, To: 13}, 'a'), -(7 + 40))
	want(t, "P14.3: of nothing", value.Moved(7, 0, api.Move{From: 4, To: 13}, 0), -7)
	want(t, "P14.3: to where it came from", value.Moved(7, 'R', api.Move{From: 4, To: 4}, 0), -7)
}

// behind wants what a position is worth behind a move, and answers that position.
func behind(t *testing.T, p api.Position, m api.Move) (api.Position, byte) {
	t.Helper()
	q, taken, e := legal.Make(p, m)
	if e != api.OK {
		t.Fatalf("%#v, %v: %d", p, m, e)
	}
	want(t, "P14.4", value.Moved(value.Of(p), board.At(p.Cells, m.From), m, taken), value.Of(q))
	return q, taken
}

func TestMovedIsOfThePositionBehind(t *testing.T) {
	r := random(1442695040888963407)
	captures := 0
	for range 20 {
		p := api.Position{Cells: api.Start, Full: 1}
		v := value.Of(p)
		for range 80 {
			l := legal.Moves(p)
			if taking := legal.Captures(p); len(taking) > 0 && r.below(3) == 0 {
				l = taking
			}
			if len(l) == 0 {
				break
			}
			m := l[r.below(len(l))]
			q, taken := behind(t, p, m)
			v = value.Moved(v, board.At(p.Cells, m.From), m, taken)
			want(t, "P3: step by step", v, value.Of(q))
			if taken != 0 {
				captures++
			}
			p = q
		}
	}
	if captures < 100 {
		t.Errorf("P14.4: too little is seen: %d", captures)
	}
}

func TestMovedOfAllMoves(t *testing.T) {
	r := random(2862933555777941757)
	p := api.Position{Cells: api.Start, Full: 1}
	for range 60 {
		l := legal.Moves(p)
		if len(l) == 0 {
			break
		}
		for _, m := range l {
			behind(t, p, m)
		}
		p, _ = behind(t, p, l[r.below(len(l))])
	}
}

func TestOfFromTheOtherSide(t *testing.T) {
	for _, s := range boards() {
		for side := range 2 {
			here := api.Position{Cells: s, Side: side, Clock: 3, Full: 5}
			there := api.Position{Cells: board.Turn(s), Side: 1 - side, Clock: 3, Full: 5}
			want(t, "P14.4", value.Of(there), value.Of(here))
		}
	}
}
