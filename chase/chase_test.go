package chase_test

import (
	"math"
	"slices"
	"strings"
	"testing"

	"riverbank/api"
	"riverbank/board"
	"riverbank/chase"
	"riverbank/check"
	"riverbank/guard"
	"riverbank/legal"
	"riverbank/place"
)

const (
	red   = "KABNRCP"
	black = "kabnrcp"
)

var (
	dots = strings.Repeat(".", 90)
	// much is a board on which red's horse takes one that could take it, its cannon and a chariot chase, and both take on 72,
	// which is guarded; black's cannon chases a chariot.
	much = with("KkRNCRPnnccac", 3, 85, 0, 21, 36, 45, 38, 40, 72, 50, 8, 76, 77)
)

// with is an empty board on which these pieces stand, each on its square.
func with(pieces string, squares ...int) string {
	cells := []byte(dots)
	for i, n := range squares {
		cells[n] = pieces[i]
	}
	return string(cells)
}

// random is a row of numbers that is the same each time.
type random uint64

// below is its next one, from 0 on.
func (r *random) below(n int) int {
	*r ^= *r << 13
	*r ^= *r >> 7
	*r ^= *r << 17
	return int(*r % random(n))
}

// boards are boards of all kinds: with no general and with many, with few pieces and with all squares filled.
func boards() []string {
	l := []string{api.Start, dots, much, strings.Repeat("C", 90), strings.Repeat("Kr", 45), strings.Repeat("Nc", 45), with("Rn", 40, 44), with("Rr", 40, 44)}
	r := random(88172645463325252)
	for i := range 30 {
		cells := []byte(dots)
		for n := range cells {
			if r.below(10) <= i%10 {
				cells[n] = (red + black)[r.below(14)]
			}
		}
		l = append(l, string(cells))
	}
	return append(l, scattered()...)
}

// scattered are boards that place.Check finds right, whosever move it is: generals are attacked on some, or face one another.
func scattered() []string {
	var l []string
	r := random(1442695040888963407)
	for i := range 240 {
		cells := dots
		for _, c := range []byte("KkAaAaBbBbNNnnRRrrCCccPPPPPppppp") {
			points := place.Points(c)
			n := points[r.below(len(points))]
			if cells[n] == '.' && (c == 'K' || c == 'k' || r.below(6) > i%6) {
				cells = board.Put(cells, n, c)
			}
		}
		l = append(l, cells)
	}
	return l
}

// others are texts that are no boards.
func others() []string {
	s := with("KkRn", 3, 85, 36, 40)
	l := []string{"", "K", "R", ".", s[:89], s[1:], s + ".", s + s, strings.Repeat("\x00", 90), strings.Repeat("é", 45), strings.Repeat("é", 90)}
	for _, n := range []int{0, 44, 45, 89} {
		for _, c := range []string{"x", "H", "e", "\x00", "\xff", " "} {
			l = append(l, s[:n]+c+s[n+1:])
		}
	}
	return l
}

// nowhere are numbers that are no squares.
func nowhere() []int {
	return []int{math.MinInt, math.MinInt + 1, -1 << 32, -91, -90, -9, -1, 90, 91, 99, 179, 180, 256, 1 << 32, 1<<32 + 18, math.MaxInt - 9, math.MaxInt}
}

// nobody are numbers that are no sides.
func nobody() []int {
	return []int{math.MinInt, math.MinInt + 1, -1 << 32, -2, -1, 2, 3, 256, 1 << 32, 1<<32 + 1, math.MaxInt}
}

func move(from int, to int) api.Move { return api.Move{From: from, To: to} }

// plainThreat is told from the chapter's words, of a board and two of its squares.
func plainThreat(cells string, m api.Move) bool {
	x, y := cells[m.From], cells[m.To]
	side := truth(strings.IndexByte(black, x) >= 0)
	if x == '.' || y == '.' || !guard.Can(cells, side, m) {
		return false
	}
	if strings.IndexByte("KkPp", x) >= 0 || y == 'P' && m.To < 45 || y == 'p' && m.To >= 45 {
		return false
	}
	lesser := strings.IndexByte("NnCc", x) >= 0 && strings.IndexByte("Rr", y) >= 0
	if guard.Guarded(cells, m) && !lesser {
		return false
	}
	return !strings.EqualFold(string(x), string(y)) || !guard.Can(cells, 1-side, move(m.To, m.From))
}

func truth(b bool) int {
	if b {
		return 1
	}
	return 0
}

// plainAll are the squares on which something stands that a side's pieces threaten.
func plainAll(cells string, side int) []int {
	var l []int
	for to := range 90 {
		for from := range 90 {
			if strings.IndexByte([]string{red, black}[side], cells[from]) >= 0 && plainThreat(cells, move(from, to)) {
				l = append(l, to)
				break
			}
		}
	}
	return l
}

// mirrored are squares as they are from the other side, rising.
func mirrored(l []int) []int {
	var there []int
	for _, n := range slices.Backward(l) {
		there = append(there, 89-n)
	}
	return there
}

func wantThreat(t *testing.T, cells string, m api.Move, want bool) {
	t.Helper()
	if got := chase.Threat(cells, m); got != want {
		t.Errorf("P16.1: Threat of %q, %v: got %v, want %v", cells, m, got, want)
	}
}

func wantAll(t *testing.T, cells string, side int, want []int) {
	t.Helper()
	if got := chase.All(cells, side); !slices.Equal(got, want) {
		t.Errorf("P16.2: All of %q, %d: got %v, want %v", cells, side, got, want)
	}
}

func wantOf(t *testing.T, p api.Position, want chase.Ply, e api.Errno) {
	t.Helper()
	got, f := chase.Of(p)
	if got.Check != want.Check || !slices.Equal(got.Chased, want.Chased) || f != e {
		t.Errorf("P16.3: Of %#v: got %v, %d, want %v, %d", p, got, f, want, e)
	}
}

type threat struct {
	cells string
	m     api.Move
	want  bool
}

// wantThreats wants each of them, from both sides.
func wantThreats(t *testing.T, l []threat) {
	t.Helper()
	for _, c := range l {
		wantThreat(t, c.cells, c.m, c.want)
		wantThreat(t, board.Turn(c.cells), move(89-c.m.From, 89-c.m.To), c.want)
	}
}

func TestThreatOfEachKind(t *testing.T) {
	wantThreats(t, []threat{
		// Each kind as what takes.
		{with("KkR", 3, 85, 36), move(36, 40), false},
		{with("KkRn", 3, 85, 36, 40), move(36, 40), true},
		{with("KkNc", 3, 85, 21, 40), move(21, 40), true},
		{with("KkCPn", 3, 85, 36, 38, 40), move(36, 40), true},
		{with("KkBn", 3, 85, 22, 42), move(22, 42), true},
		{with("KkAn", 3, 85, 13, 23), move(13, 23), true},
		{with("KkKn", 3, 86, 4, 12), move(3, 12), false},
		{with("Kkn", 3, 86, 4), move(3, 4), false},
		{with("Kkr", 3, 86, 4), move(3, 4), false},
		{with("KkPn", 3, 85, 49, 48), move(49, 48), false},
		{with("KkPr", 3, 85, 49, 58), move(49, 58), false},
		{with("KkPc", 3, 85, 31, 40), move(31, 40), false},
		// Each kind as what is taken.
		{with("KkRc", 3, 85, 36, 40), move(36, 40), true},
		{with("KkNr", 3, 85, 21, 40), move(21, 40), true},
		{with("KkRb", 3, 85, 45, 47), move(45, 47), true},
		{with("KkRa", 3, 85, 63, 66), move(63, 66), true},
		{with("KkRk", 3, 85, 81, 87), move(81, 85), false},
		{with("KkR", 3, 85, 40), move(40, 85), false},
		{with("KkN", 3, 85, 66), move(66, 85), false},
		// A pawn beyond the river, on the first rank there and on the last one, and one at home.
		{with("KkRp", 3, 85, 36, 40), move(36, 40), true},
		{with("KkRp", 3, 85, 36, 44), move(36, 44), true},
		{with("KkRp", 3, 85, 39, 36), move(39, 36), true},
		{with("KkRp", 3, 85, 0, 2), move(0, 2), true},
		{with("KkRp", 3, 85, 45, 49), move(45, 49), false},
		{with("KkRp", 3, 85, 46, 45), move(46, 45), false},
		{with("KkRp", 3, 85, 46, 53), move(46, 53), false},
		{with("KkRp", 3, 85, 54, 58), move(54, 58), false},
		{with("KkNp", 3, 85, 30, 49), move(30, 49), false},
		{with("KkCPp", 3, 85, 36, 38, 40), move(36, 40), true},
		{with("KkCPp", 3, 85, 45, 47, 49), move(45, 49), false},
	})
}

func TestThreatAtWhatIsGuarded(t *testing.T) {
	wantThreats(t, []threat{
		{with("KkRnn", 3, 85, 36, 40, 59), move(36, 40), false},
		{with("KkRnr", 3, 85, 36, 40, 58), move(36, 40), false},
		{with("KkRpn", 3, 85, 36, 40, 59), move(36, 40), false},
		{with("KkRcr", 3, 85, 36, 40, 58), move(36, 40), false},
		// By a horse and by a cannon a chariot is threatened all the same, and nothing else is.
		{with("KkNrr", 3, 85, 21, 40, 58), move(21, 40), true},
		{with("KkCPrr", 3, 85, 36, 38, 40, 58), move(36, 40), true},
		{with("KkNcr", 3, 85, 21, 40, 58), move(21, 40), false},
		{with("KkNpr", 3, 85, 21, 40, 58), move(21, 40), false},
		{with("KkCPnr", 3, 85, 36, 38, 40, 58), move(36, 40), false},
		{with("KkCPpr", 3, 85, 36, 38, 40, 58), move(36, 40), false},
		{with("KkNbb", 3, 85, 30, 47, 67), move(30, 47), false},
		// Nothing else threatens one that is guarded.
		{with("KkBrr", 3, 85, 22, 42, 60), move(22, 42), false},
		{with("KkBr", 3, 85, 22, 42), move(22, 42), true},
		{with("KkArr", 3, 85, 13, 23, 59), move(13, 23), false},
		{with("KkAr", 3, 85, 13, 23), move(13, 23), true},
		{with("KkRRrr", 3, 85, 54, 13, 58, 60), move(54, 58), false},
		// What guards is pinned, or could not take again for another reason: that is no guard.
		{with("KkRnrR", 4, 84, 24, 69, 66, 57), move(24, 69), true},
		{with("KkRnr", 4, 84, 24, 69, 66), move(24, 69), false},
		{with("KkRRnr", 3, 85, 40, 13, 42, 60), move(40, 42), true},
		{with("KkRaN", 5, 85, 12, 84, 65), move(12, 84), true},
		{with("KkRa", 5, 85, 12, 84), move(12, 84), false},
	})
}

func TestThreatAtOneKind(t *testing.T) {
	wantThreats(t, []threat{
		{with("KkRr", 3, 85, 36, 40), move(36, 40), false},
		{with("KkCPc", 3, 85, 36, 38, 40), move(36, 40), false},
		{with("KkNn", 3, 85, 21, 40), move(21, 40), false},
		// It could not: a horse's leg is stopped, a pinned piece stays, a general is attacked or would be faced.
		{with("KkNnP", 3, 85, 21, 40, 31), move(21, 40), true},
		{with("KkNnp", 3, 85, 21, 40, 31), move(21, 40), true},
		{with("KkNnP", 3, 85, 21, 40, 30), move(21, 40), false}, // here it is its own that is
		{with("KkRRr", 3, 85, 54, 13, 58), move(54, 58), true},
		{with("KkRRr", 3, 85, 54, 13, 58), move(13, 58), false}, // along the line it could
		{with("KkCPRc", 3, 85, 54, 56, 13, 58), move(54, 58), true},
		{with("KkRNr", 3, 85, 36, 66, 40), move(36, 40), true},
		{with("KkRr", 4, 85, 36, 40), move(36, 40), true},
		{with("KkRPr", 4, 85, 36, 13, 40), move(36, 40), false},
		{with("KkNn", 4, 85, 21, 40), move(21, 40), true},
		{with("KkNnp", 4, 85, 21, 40, 49), move(21, 40), false},
		{with("KkNrr", 3, 85, 21, 40, 42), move(21, 40), true},
		// It could not, but it is guarded.
		{with("KkRRrn", 3, 85, 54, 13, 58, 77), move(54, 58), false},
		// It could, and is of another kind.
		{with("KkRp", 3, 85, 39, 40), move(39, 40), true},
		{with("KkRp", 3, 85, 31, 40), move(31, 40), true},
		{with("KkNPr", 3, 85, 21, 30, 40), move(21, 40), false},
	})
}

func TestThreatOfWhatCouldNotBeMade(t *testing.T) {
	wantThreats(t, []threat{
		{api.Start, move(19, 82), false}, // it is guarded
		{api.Start, move(0, 1), false},
		{api.Start, move(0, 81), false},
		{api.Start, move(40, 49), false},
		{with("KkRN", 3, 85, 36, 40), move(36, 40), false},
		{with("KkRPn", 3, 85, 36, 38, 40), move(36, 40), false},
		{with("KkRn", 4, 85, 13, 10), move(13, 10), false},
		{with("KkRrn", 4, 84, 13, 31, 10), move(13, 10), false},
		{with("KkRrn", 4, 84, 36, 31, 40), move(36, 40), false},
		{with("KkRrn", 4, 84, 27, 31, 40), move(27, 31), false}, // it could, and could be taken so
		{with("KkNr", 4, 84, 12, 31), move(12, 31), true},
		{with("KkNrr", 4, 84, 12, 31, 49), move(12, 31), true},
		{with("KkNrr", 4, 84, 12, 31, 8), move(12, 31), false},
		{with("KkRn", 3, 85, 36, 40), move(40, 36), false},
		{with("KkRn", 3, 85, 36, 40), move(36, 36), false},
		{with("KkRn", 3, 85, 36, 40), move(38, 40), false},
	})
}

func TestThreatOfNothing(t *testing.T) {
	for _, cells := range others() {
		for _, m := range []api.Move{{}, move(36, 40), move(40, 36), move(-1, 90), move(90, 40)} {
			wantThreat(t, cells, m, false)
		}
		for _, side := range append(nobody(), 0, 1) {
			wantAll(t, cells, side, nil)
		}
	}
	for _, cells := range boards() {
		for _, n := range nowhere() {
			for _, k := range []int{0, 4, 36, 40, 45, 85, 89, n} {
				wantThreat(t, cells, move(n, k), false)
				wantThreat(t, cells, move(k, n), false)
			}
		}
		for _, side := range nobody() {
			wantAll(t, cells, side, nil)
		}
	}
}

func TestThreatOfAllMoves(t *testing.T) {
	count := [2]int{}
	for _, cells := range boards() {
		for from := range 90 {
			for to := range 90 {
				want := plainThreat(cells, move(from, to))
				wantThreat(t, cells, move(from, to), want)
				count[truth(want)]++
			}
		}
	}
	if count[1] < 200 {
		t.Errorf("P16.1: too few threats are seen: %d", count[1])
	}
}

func TestAll(t *testing.T) {
	for _, c := range []struct {
		cells string
		want  [2][]int
	}{
		{api.Start, [2][]int{}},
		{dots, [2][]int{}},
		{much, [2][]int{{40, 50}, {0}}},
		{with("KkRn", 3, 85, 36, 40), [2][]int{{40}, nil}},
		{with("KkRr", 3, 85, 36, 40), [2][]int{}},
		{with("Rn", 36, 40), [2][]int{{40}, nil}},
		// By two and by three pieces, told once.
		{with("KkRRn", 3, 86, 36, 13, 40), [2][]int{{40}, nil}},
		{with("KkRRNc", 3, 86, 36, 13, 21, 40), [2][]int{{40}, nil}},
		// By one that could not be made, or does not threaten, and by one that does.
		{with("KkRPRr", 3, 85, 13, 57, 54, 58), [2][]int{}},
		{with("KkRRr", 3, 85, 13, 54, 58), [2][]int{{58}, nil}},
		{with("KkPRn", 3, 85, 48, 54, 49), [2][]int{}},
		{with("KkPRn", 3, 85, 48, 13, 49), [2][]int{{49}, nil}},
		// Rising, though the least From takes on the greatest square.
		{with("KkRRn", 3, 85, 0, 36, 40), [2][]int{{40}, nil}},
		{with("KkRRnn", 3, 85, 0, 45, 27, 50), [2][]int{{27, 50}, nil}},
		{with("KkRRnn", 3, 85, 1, 45, 82, 50), [2][]int{{50, 82}, nil}},
		{with("KkRncbp", 3, 86, 40, 36, 44, 67, 31), [2][]int{{31, 36, 44, 67}, nil}},
		// Both sides chase.
		{with("KkRnNr", 3, 85, 37, 40, 54, 59), [2][]int{{40}, {54}}},
		{with("kKpR", 85, 3, 40, 36), [2][]int{{40}, nil}},
	} {
		for side, want := range c.want {
			wantAll(t, c.cells, side, want)
			wantAll(t, board.Turn(c.cells), 1-side, mirrored(want))
		}
	}
}

func TestAllAreNew(t *testing.T) {
	cells := with("KkRn", 3, 85, 36, 40)
	chase.All(cells, 0)[0] = 7
	wantAll(t, cells, 0, []int{40})
	ply, _ := chase.Of(api.Position{Cells: cells, Side: 1, Full: 1})
	ply.Chased[0] = 7
	wantOf(t, api.Position{Cells: cells, Side: 1, Full: 1}, chase.Ply{Chased: []int{40}}, api.OK)
}

func TestAllOfBoards(t *testing.T) {
	several := 0
	for _, cells := range boards() {
		for side := range 2 {
			want := plainAll(cells, side)
			wantAll(t, cells, side, want)
			several += truth(len(want) > 1)
			if strings.Count(cells, "K") > 1 || strings.Count(cells, "k") > 1 {
				continue // the least general's square is another one from the other side
			}
			wantAll(t, board.Turn(cells), 1-side, mirrored(want))
		}
	}
	if several < 20 {
		t.Errorf("P16.2: too few boards with several: %d", several)
	}
}

func TestOf(t *testing.T) {
	for _, c := range []struct {
		cells string
		side  int
		want  chase.Ply
		e     api.Errno
	}{
		{api.Start, 0, chase.Ply{}, api.OK},
		{api.Start, 1, chase.Ply{}, api.OK},
		// Of the side that has just moved alone.
		{with("KkRn", 3, 85, 36, 40), 1, chase.Ply{Chased: []int{40}}, api.OK},
		{with("KkRn", 3, 85, 36, 40), 0, chase.Ply{}, api.OK},
		{with("KkRnNr", 3, 85, 37, 40, 54, 59), 1, chase.Ply{Chased: []int{40}}, api.OK},
		{with("KkRnNr", 3, 85, 37, 40, 54, 59), 0, chase.Ply{Chased: []int{54}}, api.OK},
		// Check, and nothing chased, whatever there is.
		{with("KkR", 3, 85, 40), 1, chase.Ply{Check: true}, api.OK},
		{with("KkRn", 3, 85, 40, 36), 1, chase.Ply{Check: true}, api.OK},
		{with("KkRNnc", 3, 85, 36, 66, 40, 27), 1, chase.Ply{Check: true}, api.OK},
		{with("KkPn", 3, 85, 76, 36), 1, chase.Ply{Check: true}, api.OK},
		// What is wrong with a position.
		{"", 0, chase.Ply{}, api.ErrArg},
		{with("KkRn", 3, 85, 36, 40)[:89], 1, chase.Ply{}, api.ErrArg},
		{with("KkRnx", 3, 85, 36, 40, 8), 1, chase.Ply{}, api.ErrArg},
		{with("KRn", 3, 36, 40), 1, chase.Ply{}, api.ErrCount},
		{with("KkKRn", 3, 85, 12, 36, 40), 1, chase.Ply{}, api.ErrCount},
		{with("KkRRRn", 3, 85, 36, 0, 1, 40), 1, chase.Ply{}, api.ErrCount},
		{with("KkRRRRn", 3, 85, 36, 0, 1, 8, 76), 1, chase.Ply{}, api.ErrCount},
		{with("KkRnB", 3, 85, 36, 40, 8), 1, chase.Ply{}, api.ErrPlace},
		{with("KkRp", 3, 85, 36, 89), 1, chase.Ply{}, api.ErrPlace},
		{with("KkRn", 4, 85, 36, 39), 1, chase.Ply{}, api.ErrFacing},
		{with("KkRn", 4, 85, 36, 39), 0, chase.Ply{}, api.ErrFacing},
		{with("KkRn", 3, 85, 40, 36), 0, chase.Ply{}, api.ErrCheck},
		{with("Kkrn", 3, 85, 30, 31), 1, chase.Ply{}, api.ErrCheck},
		{with("KkRrn", 3, 85, 40, 30, 36), 0, chase.Ply{}, api.ErrCheck},
		{with("KkRrn", 3, 85, 40, 30, 36), 1, chase.Ply{}, api.ErrCheck},
	} {
		wantOf(t, api.Position{Cells: c.cells, Side: c.side, Full: 1}, c.want, c.e)
		wantOf(t, api.Position{Cells: c.cells, Side: c.side, Clock: 120, Full: 9999}, c.want, c.e)
		there := chase.Ply{Check: c.want.Check, Chased: mirrored(c.want.Chased)}
		wantOf(t, api.Position{Cells: board.Turn(c.cells), Side: 1 - c.side, Full: 1}, there, c.e)
	}
}

func TestOfWrongArguments(t *testing.T) {
	// Boards that chase, that give check, and with all that may be wrong with them: what is no argument is told first.
	for _, cells := range []string{api.Start, dots, with("KkRn", 3, 85, 36, 40), with("KkR", 3, 85, 40), with("KkB", 4, 85, 3)} {
		for _, side := range nobody() {
			wantOf(t, api.Position{Cells: cells, Side: side, Full: 1}, chase.Ply{}, api.ErrArg)
		}
		for _, clock := range []int{math.MinInt, -1, 121, math.MaxInt} {
			wantOf(t, api.Position{Cells: cells, Side: 1, Clock: clock, Full: 1}, chase.Ply{}, api.ErrArg)
		}
		for _, full := range []int{math.MinInt, -1, 0, 10000, math.MaxInt} {
			wantOf(t, api.Position{Cells: cells, Side: 1, Full: full}, chase.Ply{}, api.ErrArg)
		}
	}
	wantOf(t, api.Position{}, chase.Ply{}, api.ErrArg)
}

// plainOf is told from the chapter's words.
func plainOf(p api.Position) (chase.Ply, api.Errno) {
	e := check.Well(p)
	switch {
	case e != api.OK:
		return chase.Ply{}, e
	case check.In(p.Cells, p.Side):
		return chase.Ply{Check: true}, api.OK
	}
	return chase.Ply{Chased: plainAll(p.Cells, 1-p.Side)}, api.OK
}

func TestOfPositions(t *testing.T) {
	checks, chases := 0, 0
	errors := map[api.Errno]int{}
	for _, cells := range boards() {
		for side := range 2 {
			p := api.Position{Cells: cells, Side: side, Full: 1}
			want, e := plainOf(p)
			wantOf(t, p, want, e)
			errors[e]++
			checks += truth(want.Check)
			chases += truth(len(want.Chased) > 0)
			if e == api.OK {
				there := chase.Ply{Check: want.Check, Chased: mirrored(want.Chased)}
				wantOf(t, api.Position{Cells: board.Turn(cells), Side: 1 - side, Full: 1}, there, api.OK)
			}
		}
	}
	for _, e := range []api.Errno{api.OK, api.ErrCount, api.ErrFacing, api.ErrCheck} {
		if errors[e] == 0 {
			t.Errorf("P16.3: no position with error %d", e)
		}
	}
	if checks < 5 || chases < 20 {
		t.Errorf("P16.3: too little is seen: %d checks, %d chases", checks, chases)
	}
}

// TestWhatIsChasedIsTaken plays games on, and takes what is chased where the side that chases is to move.
func TestWhatIsChasedIsTaken(t *testing.T) {
	r := random(2862933555777941757)
	taken := 0
	for range 6 {
		p := api.Position{Cells: api.Start, Full: 1}
		for range 60 {
			l := legal.Moves(p)
			if len(l) == 0 {
				break
			}
			p, _, _ = legal.Make(p, l[r.below(len(l))])
			want, e := plainOf(p)
			wantOf(t, p, want, e)
			for _, n := range chase.All(p.Cells, p.Side) {
				taken++
				if !slices.ContainsFunc(legal.Captures(p), func(m api.Move) bool { return m.To == n }) {
					t.Errorf("P16.4: %#v: %d is not taken", p, n)
				}
			}
		}
	}
	if taken < 50 {
		t.Errorf("P16.4: too little is chased: %d", taken)
	}
}
