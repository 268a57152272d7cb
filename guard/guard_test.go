package guard_test

import (
	"math"
	"slices"
	"strings"
	"testing"

	"riverbank/api"
	"riverbank/board"
	"riverbank/check"
	"riverbank/guard"
	"riverbank/legal"
	"riverbank/place"
	"riverbank/reach"
)

const (
	red   = "KABNRCP"
	black = "kabnrcp"
)

var (
	dots = strings.Repeat(".", 90)
	// orders is a board on which red takes much, and black nothing.
	orders = with("KkRNCPncppp", 3, 86, 40, 21, 13, 49, 31, 38, 43, 48, 50)
)

// with is an empty board on which these pieces stand, each on its square.
func with(pieces string, squares ...int) string {
	cells := []byte(dots)
	for i, n := range squares {
		cells[n] = pieces[i]
	}
	return string(cells)
}

// random is a row of numbers that is the same each time.
type random uint64

// below is its next one, from 0 on.
func (r *random) below(n int) int {
	*r ^= *r << 13
	*r ^= *r >> 7
	*r ^= *r << 17
	return int(*r % random(n))
}

// boards are boards of all kinds: with no general and with many, with few pieces and with all squares filled.
func boards() []string {
	l := []string{api.Start, dots, strings.Repeat("C", 90), strings.Repeat("Kr", 45), strings.Repeat("Nc", 45), with("R", 40), with("Rr", 40, 44)}
	r := random(88172645463325252)
	for i := range 30 {
		cells := []byte(dots)
		for n := range cells {
			if r.below(10) <= i%10 {
				cells[n] = (red + black)[r.below(14)]
			}
		}
		l = append(l, string(cells))
	}
	return append(l, scattered()...)
}

// scattered are boards that place.Check finds right, whosever move it is: generals are attacked on some, or face one another.
func scattered() []string {
	var l []string
	r := random(1442695040888963407)
	for i := range 80 {
		cells := dots
		for _, c := range []byte("KkAaAaBbBbNNnnRRrrCCccPPPPPppppp") {
			points := place.Points(c)
			n := points[r.below(len(points))]
			if cells[n] == '.' && (c == 'K' || c == 'k' || r.below(6) > i%6) {
				cells = board.Put(cells, n, c)
			}
		}
		l = append(l, cells)
	}
	return l
}

// others are texts that are no boards.
func others() []string {
	s := api.Start
	l := []string{"", "K", "C", ".", s[:89], s[1:], s + ".", s + s, strings.Repeat("\x00", 90), strings.Repeat("é", 45), strings.Repeat("é", 90)}
	for _, n := range []int{0, 44, 45, 89} {
		for _, c := range []string{"x", "H", "e", "\x00", "\xff", " "} {
			l = append(l, s[:n]+c+s[n+1:])
		}
	}
	return l
}

// nowhere are numbers that are no squares.
func nowhere() []int {
	return []int{math.MinInt, math.MinInt + 1, -1 << 32, -91, -90, -9, -1, 90, 91, 99, 179, 180, 256, 1 << 32, 1<<32 + 18, math.MaxInt - 9, math.MaxInt}
}

// nobody are numbers that are no sides.
func nobody() []int {
	return []int{math.MinInt, math.MinInt + 1, -1 << 32, -2, -1, 2, 3, 256, 1 << 32, 1<<32 + 1, math.MaxInt}
}

func move(from int, to int) api.Move { return api.Move{From: from, To: to} }

func turned(m api.Move) api.Move { return move(89-m.From, 89-m.To) }

// behind is a board on which what stands on From stands on To.
func behind(cells string, m api.Move) string {
	b := []byte(cells)
	b[m.To] = b[m.From]
	b[m.From] = '.'
	return string(b)
}

// plainSide is a letter's side; -1 of what is no piece.
func plainSide(c byte) int {
	switch {
	case strings.IndexByte(red, c) >= 0:
		return 0
	case strings.IndexByte(black, c) >= 0:
		return 1
	}
	return -1
}

// plainCan is told from the chapter's words, of a board and two of its squares.
func plainCan(cells string, side int, m api.Move) bool {
	if plainSide(cells[m.From]) != side || !reach.Can(cells, m.From, m.To) || strings.IndexByte("Kk", cells[m.To]) >= 0 {
		return false
	}
	s := behind(cells, m)
	return !check.Facing(s) && !check.In(s, side)
}

func plainGuarded(cells string, m api.Move) bool {
	side := plainSide(cells[m.From])
	if !plainCan(cells, side, m) {
		return false
	}
	for from := range 90 {
		if plainCan(behind(cells, m), 1-side, move(from, m.To)) {
			return true
		}
	}
	return false
}

func plainTakes(cells string, side int) []api.Move {
	var l []api.Move
	for from := range 90 {
		for to := range 90 {
			if cells[to] != '.' && plainCan(cells, side, move(from, to)) {
				l = append(l, move(from, to))
			}
		}
	}
	return l
}

func wantCan(t *testing.T, cells string, side int, m api.Move, want bool) {
	t.Helper()
	if got := guard.Can(cells, side, m); got != want {
		t.Errorf("P15.1: Can of %q, %d, %v: got %v, want %v", cells, side, m, got, want)
	}
}

func wantGuarded(t *testing.T, cells string, m api.Move, want bool) {
	t.Helper()
	if got := guard.Guarded(cells, m); got != want {
		t.Errorf("P15.2: Guarded of %q, %v: got %v, want %v", cells, m, got, want)
	}
}

func wantTakes(t *testing.T, cells string, side int, want []api.Move) {
	t.Helper()
	if got := guard.Takes(cells, side); !slices.Equal(got, want) {
		t.Errorf("P15.1: Takes of %q, %d: got %v, want %v", cells, side, got, want)
	}
}

func TestCan(t *testing.T) {
	for _, c := range []struct {
		cells string
		m     api.Move
		want  bool
	}{
		{api.Start, move(19, 82), true},
		{api.Start, move(31, 40), true},
		{api.Start, move(0, 18), true},
		{api.Start, move(0, 27), false}, // a piece of its own
		{api.Start, move(0, 81), false},
		{api.Start, move(40, 41), false},
		{with("KkR", 3, 85, 36), move(36, 40), true},
		{with("KkRn", 3, 85, 36, 40), move(36, 40), true},
		{with("KkRn", 3, 85, 36, 40), move(36, 41), false},
		{with("KkRN", 3, 85, 36, 40), move(36, 40), false},
		{with("KkCPn", 3, 85, 36, 38, 40), move(36, 40), true},
		{with("KkNn", 3, 85, 21, 40), move(21, 40), true},
		{with("KkNPn", 3, 85, 21, 30, 40), move(21, 40), false},
		// A general on To, whatever reaches it: another general, too.
		{with("KkR", 3, 85, 40), move(40, 85), false},
		{with("KkCP", 3, 85, 40, 49), move(40, 85), false},
		{with("KkN", 3, 85, 66), move(66, 85), false},
		{with("KkP", 3, 85, 76), move(76, 85), false},
		{with("KkR", 3, 85, 40), move(40, 76), true},
		{with("Kk", 4, 13), move(4, 13), false},
		{with("kR", 40, 36), move(36, 40), false}, // where it may not stand, too
		// Generals that face one another behind it.
		{with("KkA", 4, 85, 13), move(13, 3), false},
		{with("KkR", 4, 85, 13), move(13, 12), false},
		{with("KkR", 4, 85, 13), move(13, 22), true},
		{with("KkRn", 4, 85, 13, 10), move(13, 10), false},
		{with("KkRP", 4, 85, 13, 49), move(13, 12), true},
		{with("Kk", 3, 85), move(3, 4), false},
		{with("Kk", 3, 85), move(3, 12), true},
		{with("Kkn", 3, 85, 4), move(3, 4), false},
		{with("Kkn", 3, 86, 4), move(3, 4), true},
		// Generals that face one another ahead of it, but not behind it.
		{with("Kk", 4, 85), move(4, 3), true},
		{with("Kk", 4, 85), move(4, 13), false},
		{with("KkR", 4, 85, 36), move(36, 40), true},
		{with("KkR", 4, 85, 36), move(36, 39), false},
		// Its own general attacked behind it.
		{with("KkRr", 4, 84, 13, 31), move(13, 12), false},
		{with("KkRr", 4, 84, 13, 31), move(13, 22), true},
		{with("KkRr", 4, 84, 13, 31), move(13, 31), true},
		{with("KkRrn", 4, 84, 13, 31, 10), move(13, 10), false},
		{with("KkPPc", 4, 84, 49, 58, 67), move(49, 48), false}, // it leaves the cannon a screen
		{with("KkPc", 4, 84, 49, 67), move(49, 48), true},       // it leaves it none
		{with("KkAc", 4, 84, 3, 67), move(3, 13), false},        // it gives it one
		{with("KkNn", 4, 84, 14, 23), move(14, 33), false},      // its horse stops the other's leg
		{with("KkRn", 4, 84, 17, 23), move(17, 14), true},
		{with("KkRn", 4, 84, 17, 23), move(17, 15), false},
		{with("Kkr", 4, 84, 32), move(4, 5), false},         // into an attack
		{with("Kkrn", 4, 84, 31, 13), move(4, 13), false},   // what is guarded
		{with("Kkrn", 4, 84, 32, 13), move(4, 13), true},    // what is not
		{with("KkrB", 13, 84, 17, 22), move(22, 42), false}, // attacked ahead of it already, and behind it
		// Its own general attacked ahead of it: taken, stopped, left.
		{with("KkRr", 4, 84, 27, 31), move(27, 31), true},
		{with("KkRr", 4, 84, 18, 31), move(18, 22), true},
		{with("KkRr", 4, 84, 18, 31), move(18, 21), false},
		{with("KkRr", 4, 84, 18, 31), move(4, 5), true},
		{with("KkRr", 4, 84, 18, 31), move(4, 3), false},
		{with("KkRr", 4, 84, 18, 31), move(4, 13), false},
		{with("KkRrr", 4, 84, 27, 31, 8), move(27, 31), false},
		// The other side's general is of no moment: it may be attacked ahead of it and behind it.
		{with("KkR", 3, 85, 40), move(40, 49), true},
		{with("KkRN", 3, 85, 40, 20), move(20, 39), true},
		{with("KkR", 3, 85, 36), move(36, 40), true},
		// Boards with no general, with one, and with more than one, of which the least counts.
		{with("Rr", 36, 40), move(36, 40), true},
		{with("R", 36), move(36, 40), true},
		{with("Kr", 4, 31), move(31, 32), true},
		{with("KR", 4, 31), move(31, 32), true},
		{with("KKkRr", 4, 12, 84, 36, 17), move(36, 40), true},
		{with("KKkRr", 4, 12, 84, 36, 40), move(36, 39), false},
		{with("KkkRA", 4, 84, 85, 36, 13), move(13, 5), true},
	} {
		side := board.Side(board.At(c.cells, c.m.From))
		wantCan(t, c.cells, side, c.m, c.want)
		wantCan(t, c.cells, 1-side, c.m, false)
		for _, n := range nobody() {
			wantCan(t, c.cells, n, c.m, false)
		}
	}
}

func TestCanFromTheOtherSide(t *testing.T) {
	for _, c := range []struct {
		cells string
		m     api.Move
		want  bool
	}{
		{api.Start, move(64, 1), true},
		{api.Start, move(49, 40), false},
		{with("kKr", 86, 4, 53), move(53, 49), true},
		{with("kKr", 85, 4, 76), move(76, 77), false},
		{with("kKr", 85, 4, 76), move(76, 67), true},
		{with("kKrR", 85, 5, 76, 58), move(76, 77), false},
		{with("kKrR", 85, 5, 76, 58), move(76, 58), true},
		{with("kKrR", 85, 5, 62, 58), move(62, 58), true},
		{with("kKrR", 85, 5, 62, 58), move(62, 59), false},
		{with("kKr", 85, 5, 59), move(59, 5), false},
		{with("kKp", 85, 5, 40), move(40, 39), true},
		{with("kKp", 85, 5, 49), move(49, 48), false},
	} {
		wantCan(t, c.cells, 1, c.m, c.want)
		wantCan(t, c.cells, 0, c.m, false)
	}
}

func TestCanOfNothing(t *testing.T) {
	sides := append(nobody(), 0, 1)
	for _, cells := range others() {
		for _, side := range sides {
			for _, m := range []api.Move{{}, move(19, 82), move(64, 1), move(40, 49), move(-1, 90), move(90, 90)} {
				wantCan(t, cells, side, m, false)
				wantGuarded(t, cells, m, false)
			}
			wantTakes(t, cells, side, nil)
		}
	}
	for _, cells := range []string{api.Start, dots, strings.Repeat("C", 90), strings.Repeat("Rr", 45)} {
		for _, n := range nowhere() {
			for k := range 90 {
				for _, m := range []api.Move{move(n, k), move(k, n), move(n, n), move(k, k)} {
					for _, side := range sides {
						wantCan(t, cells, side, m, false)
					}
					wantGuarded(t, cells, m, false)
				}
			}
		}
		for _, side := range nobody() {
			wantTakes(t, cells, side, nil)
		}
	}
}

func TestCanOfAnEmptySquare(t *testing.T) {
	for n := range 90 {
		for _, side := range append(nobody(), 0, 1) {
			wantCan(t, dots, side, move(n, (n+9)%90), false)
			if api.Start[n] == '.' {
				wantCan(t, api.Start, side, move(n, (n+9)%90), false)
				wantGuarded(t, api.Start, move(n, (n+9)%90), false)
			}
		}
	}
}

func TestTakes(t *testing.T) {
	for _, c := range []struct {
		cells string
		want  [2][]api.Move
	}{
		{api.Start, [2][]api.Move{{move(19, 82), move(25, 88)}, {move(64, 1), move(70, 7)}}},
		{dots, [2][]api.Move{}},
		{with("Rr", 36, 40), [2][]api.Move{{move(36, 40)}, {move(40, 36)}}},
		// By From, rising, then by To: pieces ahead, aside and behind.
		{orders, [2][]api.Move{{move(21, 38), move(40, 31), move(40, 38), move(40, 43), move(49, 48), move(49, 50)}, nil}},
		{board.Turn(orders), [2][]api.Move{nil, {move(40, 39), move(40, 41), move(49, 46), move(49, 51), move(49, 58), move(68, 51)}}},
		{with("KkNnnr", 3, 85, 40, 21, 23, 59), [2][]api.Move{{move(40, 21), move(40, 23), move(40, 59)}, {move(21, 40), move(23, 40)}}},
		// No general is taken, and none is left where it is.
		{with("KkRn", 3, 85, 40, 10), [2][]api.Move{}},
		{with("KkRrnn", 4, 84, 13, 31, 10, 16), [2][]api.Move{{move(13, 31)}, {move(31, 13)}}},
		{with("KkRrr", 4, 84, 27, 31, 72), [2][]api.Move{{move(27, 31)}, {move(31, 27), move(72, 27)}}},
		{with("KkAn", 4, 85, 13, 3), [2][]api.Move{{move(4, 3)}, nil}},
	} {
		for side, want := range c.want {
			wantTakes(t, c.cells, side, want)
		}
	}
}

func TestTakesAreNew(t *testing.T) {
	guard.Takes(api.Start, 0)[0] = move(1, 2)
	wantTakes(t, api.Start, 0, []api.Move{move(19, 82), move(25, 88)})
}

func TestGuarded(t *testing.T) {
	for _, c := range []struct {
		cells string
		m     api.Move
		want  bool
	}{
		{api.Start, move(19, 82), true},
		{api.Start, move(25, 88), true},
		{api.Start, move(19, 83), false},                  // nothing takes there
		{with("KkPp", 3, 85, 40, 58), move(40, 49), true}, // what moves without taking may be taken, too
		{with("KkPp", 3, 85, 40, 59), move(40, 49), false},
		{api.Start, move(0, 9), false},
		{api.Start, move(19, 46), false},
		{with("KkRn", 3, 85, 36, 40), move(36, 40), false},
		// Each kind guards.
		{with("KkRnn", 3, 85, 36, 40, 59), move(36, 40), true},
		{with("KkRnnp", 3, 85, 36, 40, 59, 50), move(36, 40), false},
		{with("KkRnr", 3, 85, 36, 40, 44), move(36, 40), true},
		{with("KkRnrp", 3, 85, 36, 40, 44, 42), move(36, 40), false},
		{with("KkRnc", 3, 85, 36, 40, 44), move(36, 40), false},
		{with("KkRncp", 3, 85, 36, 40, 44, 42), move(36, 40), true},
		{with("KkRnp", 3, 85, 36, 40, 49), move(36, 40), true},
		{with("KkRnp", 3, 85, 36, 40, 41), move(36, 40), true},
		{with("KkRnp", 3, 85, 36, 40, 31), move(36, 40), false},
		{with("KkRnp", 3, 85, 45, 49, 50), move(45, 49), false}, // at home a pawn goes ahead alone
		{with("KkRnb", 3, 85, 45, 47, 67), move(45, 47), true},
		{with("KkRnbp", 3, 85, 45, 47, 67, 57), move(45, 47), false},
		{with("KkRna", 3, 85, 63, 66, 76), move(63, 66), true},
		{with("KkRna", 3, 85, 63, 67, 76), move(63, 67), false},
		{with("KkRa", 3, 85, 72, 76), move(72, 76), true},
		{with("KkRn", 3, 84, 72, 76), move(72, 76), false},
		// What takes again stands, or goes, where what takes has gone from.
		{with("KkRnr", 3, 85, 40, 42, 36), move(40, 42), true},
		{with("KkRnc", 3, 85, 40, 42, 36), move(40, 42), false},
		{with("KkRnc", 3, 85, 60, 42, 36), move(60, 42), false},
		{with("KkRncp", 3, 85, 60, 42, 36, 38), move(60, 42), true},
		{with("Kkanr", 3, 85, 76, 66, 0), move(76, 66), false}, // of its own side alone
		// A pinned piece guards nothing: but along the line it does.
		{with("KkRnrR", 4, 84, 24, 69, 66, 57), move(24, 69), false},
		{with("KkRnr", 4, 84, 24, 69, 66), move(24, 69), true},
		{with("KkRnrR", 4, 84, 18, 21, 66, 12), move(18, 21), true},
		{with("KkRncrC", 4, 84, 24, 69, 75, 66, 57), move(24, 69), false},
		{with("KknRnr", 4, 84, 75, 24, 69, 66), move(24, 69), true},
		{with("KkRnr", 3, 84, 24, 69, 66), move(24, 69), false}, // generals would face one another
		{with("KkRnrp", 3, 84, 24, 69, 66, 48), move(24, 69), true},
		// A recapture that may not be made: the general is attacked by another one, before it and behind it.
		{with("KkRRnr", 3, 85, 40, 13, 42, 60), move(40, 42), false},
		{with("KkRRnr", 3, 85, 41, 13, 42, 60), move(41, 42), false},
		{with("KkRnr", 3, 85, 40, 42, 60), move(40, 42), true},
		{with("KkRr", 3, 85, 39, 76), move(39, 40), true}, // it comes between
		{with("KkRNr", 3, 85, 39, 66, 76), move(39, 40), false},
		{with("KkRnr", 3, 85, 72, 76, 79), move(72, 76), true}, // it takes what gives check
		// A general guards, if it may step there.
		{with("KkRa", 5, 85, 12, 84), move(12, 84), true},
		{with("KkRaN", 5, 85, 12, 84, 65), move(12, 84), false},
		{with("KkRa", 3, 85, 81, 84), move(81, 84), false},
		{with("KkRap", 3, 85, 81, 84, 48), move(81, 84), true},
		{with("KkRn", 5, 85, 63, 67), move(63, 67), false},
		// What may not be made is not guarded.
		{with("KkRnr", 4, 85, 13, 10, 1), move(13, 10), false},
		{with("KkRrnr", 4, 84, 13, 31, 10, 1), move(13, 10), false},
		{with("KkRr", 3, 85, 40, 76), move(40, 85), false},
		{with("KkRrr", 3, 85, 40, 76, 79), move(40, 85), false},
		{with("Kkrn", 4, 84, 31, 13), move(4, 13), false},
		{with("Kkrn", 4, 84, 32, 13), move(4, 13), false},
		{with("KkRRr", 3, 85, 36, 40, 44), move(36, 40), false},
		{with("KkRnr", 3, 85, 36, 40, 44), move(36, 41), false},
		// Boards with no general.
		{with("Rnr", 36, 40, 44), move(36, 40), true},
		{with("Rn", 36, 40), move(36, 40), false},
	} {
		wantGuarded(t, c.cells, c.m, c.want)
		wantGuarded(t, board.Turn(c.cells), turned(c.m), c.want)
	}
}

func TestGuardedWithManyGenerals(t *testing.T) {
	// Of more than one the least square counts, and none of them is taken.
	wantGuarded(t, with("RRnrkk", 36, 8, 40, 44, 80, 85), move(36, 40), false)
	wantGuarded(t, with("RRnrkk", 36, 8, 40, 44, 79, 80), move(36, 40), true)
	wantCan(t, with("KKknr", 3, 13, 85, 14, 17), 0, move(13, 14), true)
	wantGuarded(t, with("KKknr", 3, 13, 85, 14, 17), move(13, 14), false)
	wantGuarded(t, with("KAknr", 3, 13, 85, 23, 26), move(13, 23), true)
}

func TestAllMovesOfBoards(t *testing.T) {
	count := [4]int{}
	for _, cells := range boards() {
		for from := range 90 {
			for to := range 90 {
				m := move(from, to)
				for side := range 2 {
					can := plainCan(cells, side, m)
					wantCan(t, cells, side, m, can)
					if reach.Can(cells, from, to) && plainSide(cells[from]) == side {
						count[truth(can)]++
					}
				}
				guarded := plainGuarded(cells, m)
				wantGuarded(t, cells, m, guarded)
				if cells[to] != '.' && plainCan(cells, plainSide(cells[from]), m) {
					count[2+truth(guarded)]++
				}
			}
		}
	}
	for i, n := range count {
		if n < 100 {
			t.Errorf("too little is seen of %d: %d", i, n)
		}
	}
}

func truth(b bool) int {
	if b {
		return 1
	}
	return 0
}

func TestTakesOfBoards(t *testing.T) {
	for _, cells := range boards() {
		for side := range 2 {
			want := plainTakes(cells, side)
			wantTakes(t, cells, side, want)
			if strings.Count(cells, "K") > 1 || strings.Count(cells, "k") > 1 {
				continue // the least general's square is another one from there
			}
			var there []api.Move
			for _, m := range want {
				there = append(there, turned(m))
			}
			slices.SortFunc(there, func(a, b api.Move) int { return (a.From-b.From)*100 + a.To - b.To })
			wantTakes(t, board.Turn(cells), 1-side, there)
		}
	}
}

// TestWhatMayBeMade holds what a side could make against what it may make, where the position is right.
func TestWhatMayBeMade(t *testing.T) {
	right := 0
	for _, cells := range scattered() {
		for side := range 2 {
			p := api.Position{Cells: cells, Side: side, Full: 1}
			if check.Well(p) != api.OK {
				continue
			}
			right++
			wantTakes(t, cells, side, legal.Captures(p))
			for _, m := range legal.Moves(p) {
				wantCan(t, cells, side, m, true)
				q, _, _ := legal.Make(p, m)
				again := slices.ContainsFunc(legal.Moves(q), func(back api.Move) bool { return back.To == m.To })
				wantGuarded(t, cells, m, again)
			}
		}
	}
	if right < 20 {
		t.Errorf("P15.3: too few right positions: %d", right)
	}
}
