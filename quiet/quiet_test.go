package quiet_test

import (
	"math"
	"strings"
	"testing"

	"riverbank/api"
	"riverbank/board"
	"riverbank/check"
	"riverbank/legal"
	"riverbank/place"
	"riverbank/quiet"
	"riverbank/value"
)

var start = api.Position{Cells: api.Start, Full: 1}

// with is an empty board on which these pieces stand, each on its square.
func with(pieces string, squares ...int) string {
	cells := []byte(strings.Repeat(".", api.Squares))
	for i, n := range squares {
		cells[n] = pieces[i]
	}
	return string(cells)
}

// red is a position of such a board, in which it is red's move.
func red(pieces string, squares ...int) api.Position {
	return api.Position{Cells: with(pieces, squares...), Full: 1}
}

func turned(p api.Position) api.Position {
	p.Cells, p.Side = board.Turn(p.Cells), 1-p.Side
	return p
}

// random is a row of numbers that is the same each time.
type random uint64

// below is its next one, from 0 on.
func (r *random) below(n int) int {
	*r ^= *r << 13
	*r ^= *r >> 7
	*r ^= *r << 17
	return int(*r % random(n))
}

// scattered are right positions, each made of the generals and some of these pieces.
func scattered(n int, pieces string) []api.Position {
	var l []api.Position
	r := random(88172645463325252)
	for len(l) < n {
		cells := with("")
		for i, c := range []byte("Kk" + pieces) {
			points := place.Points(c)
			at := points[r.below(len(points))]
			if cells[at] == '.' && (i < 2 || r.below(4) > 0) {
				cells = board.Put(cells, at, c)
			}
		}
		p := api.Position{Cells: cells, Side: r.below(2), Clock: r.below(121), Full: 1 + r.below(9999)}
		if check.Well(p) == api.OK {
			l = append(l, p)
		}
	}
	return l
}

// tree tells what positions are worth by the chapter's words, once each.
type tree map[api.Position]int

func (t tree) of(p api.Position) int {
	worth, ok := t[p]
	if !ok {
		worth = t.anew(p)
		t[p] = worth
	}
	return worth
}

func (t tree) anew(p api.Position) int {
	switch {
	case check.Well(p) != api.OK:
		return 0
	case len(legal.Moves(p)) == 0:
		return -10000
	}
	worth := value.Of(p)
	for _, m := range legal.Captures(p) {
		q, _, _ := legal.Make(p, m)
		worth = max(worth, -t.of(q))
	}
	return worth
}

// cut is a number between two bounds, by the chapter's words.
func cut(worth int, low int, high int) int {
	switch {
	case high <= low, worth < low:
		return low
	case worth > high:
		return high
	}
	return worth
}

// bounds are pairs of bounds near a number and far from it.
func bounds(worth int) [][2]int {
	l := [][2]int{
		{math.MinInt, math.MaxInt}, {math.MinInt, math.MinInt}, {math.MaxInt, math.MaxInt}, {math.MaxInt, math.MinInt},
		{math.MinInt, math.MinInt + 1}, {math.MaxInt - 1, math.MaxInt}, {math.MinInt, -20000}, {20000, math.MaxInt},
		{-10000, 10000}, {-10001, 10001}, {-9999, 9999}, {-10000, -9999}, {9999, 10000}, {10000, 10001}, {-10001, -10000},
		{-1 << 32, 1 << 32}, {-1 << 31, 1<<31 - 1}, {0, 0}, {-1, 1}, {0, 1}, {-1, 0}, {5, 3},
	}
	for low := -3; low <= 3; low++ {
		for high := -3; high <= 3; high++ {
			l = append(l, [2]int{worth + low, worth + high})
		}
	}
	for _, far := range []int{40, 200, 900} {
		l = append(l, [2]int{worth, worth + far}, [2]int{worth - far, worth}, [2]int{worth - far, worth + far}, [2]int{worth + 1, worth + far}, [2]int{worth - far, worth - 1})
	}
	return l
}

// holds tells whether Of is so much, and Window what of it lies between all kinds of bounds.
func holds(t *testing.T, p api.Position, worth int) {
	t.Helper()
	if got := quiet.Of(p); got != worth {
		t.Errorf("P21.1: Of %v: got %d, want %d", p, got, worth)
	}
	for _, b := range bounds(worth) {
		if got := quiet.Window(p, b[0], b[1]); got != cut(worth, b[0], b[1]) {
			t.Errorf("P21.2: Window of %v, %v: got %d, want %d", p, b, got, cut(worth, b[0], b[1]))
		}
	}
}

func TestLost(t *testing.T) {
	if quiet.Lost != -10000 {
		t.Errorf("P21.1: Lost is %d", quiet.Lost)
	}
}

// TestByHand goes by numbers that were reckoned by hand.
func TestByHand(t *testing.T) {
	for _, c := range []struct {
		why   string
		p     api.Position
		worth int
	}{
		{"the start: the cannons would be taken again", start, 0},
		{"two generals that do not face one another", red("Kk", 3, 85), 0},
		{"nothing to take", red("KkR", 3, 85, 36), 204},
		{"a horse that nobody guards", red("KkRn", 3, 85, 36, 40), 208},
		{"a horse that nobody guards, but it is the other side's move", api.Position{Cells: with("KkRn", 3, 85, 36, 40), Side: 1, Full: 1}, 99 - 204},
		{"a pawn that a chariot guards: it is left", red("KkRpr", 3, 85, 36, 40, 44), 204 - 80 - 205},
		{"a chariot that a chariot guards", red("KkRrr", 3, 85, 36, 40, 44), -209},
		{"mate", red("Kkrr", 4, 84, 12, 0), -10000},
		{"no move, without check", red("Kkr", 4, 86, 12), -10000},
		{"a capture behind which there is no move", red("KkRRn", 3, 85, 9, 80, 81), 10000},
		{"in check, and nothing to take: it counts no more than other positions", red("Kkr", 3, 85, 0), -209},
		{"a general that takes", red("Kkr", 3, 85, 12), 0},
		{"a general that may not take what is guarded", red("Kkrr", 3, 84, 12, 66), -211 - 205},
		{"a capture that would leave the generals facing", red("KkNr", 4, 85, 40, 59), 98 - 206},
	} {
		holds(t, c.p, c.worth)
		holds(t, turned(c.p), c.worth)
		if t.Failed() {
			t.Fatal(c.why)
		}
	}
}

// TestNotRight takes positions that are not right, of every kind.
func TestNotRight(t *testing.T) {
	r := red("KkR", 3, 85, 36)
	l := []api.Position{
		{}, {Full: 1}, {Cells: strings.Repeat(".", 90), Full: 1}, {Cells: api.Start}, {Cells: api.Start, Full: 10000}, {Cells: api.Start, Full: math.MinInt},
		red("KkRr", 4, 85, 36, 38), red("KkR", 3, 85, 40), red("KKkR", 3, 4, 86, 36), red("KkRRR", 3, 85, 36, 37, 38), red("KkA", 3, 85, 4), red("kR", 85, 36), red("KR", 3, 36),
	}
	for _, cells := range []string{r.Cells[1:], r.Cells + ".", strings.Replace(r.Cells, "R", "x", 1), strings.Replace(r.Cells, "R", "\xff", 1)} {
		l = append(l, api.Position{Cells: cells, Full: 1})
	}
	for _, n := range []int{math.MinInt, -1, 2, 121, math.MaxInt} {
		side, clock := r, r
		side.Side, clock.Clock = n, n
		l = append(l, clock)
		if n != 121 {
			l = append(l, side)
		}
	}
	seen := map[api.Errno]int{}
	for _, p := range l {
		if e := check.Well(p); e == api.OK && p.Clock != 2 {
			t.Fatalf("%v is right", p)
		}
		seen[check.Well(p)]++
		if check.Well(p) != api.OK {
			holds(t, p, 0)
		}
	}
	for _, e := range []api.Errno{api.ErrArg, api.ErrPlace, api.ErrCount, api.ErrFacing, api.ErrCheck} {
		if seen[e] == 0 {
			t.Errorf("P21.1: no position with error %d", e)
		}
	}
}

// TestOfMany holds positions, with few pieces and with many, against the chapter's words.
func TestOfMany(t *testing.T) {
	t.Parallel()
	trees := tree{}
	var taken, left, lost, won, even int
	for _, pieces := range []string{"R", "Rr", "RRrr", "RCNrcn", "PPPpppAa", "RNCPABrncpab", "RRNNCCrrnncc", "RPpcnCNrAABBaabb"} {
		for _, p := range scattered(100, pieces) {
			worth := trees.of(p)
			holds(t, p, worth)
			holds(t, turned(p), worth)
			v := value.Of(p)
			switch {
			case worth == -10000:
				lost++
			case worth == 10000:
				won++
			case worth > v:
				taken++
			case len(legal.Captures(p)) > 0:
				left++
			default:
				even++
			}
			if worth != -10000 && worth < v {
				t.Errorf("P21.3: %v: %d, but nobody must take: %d", p, worth, v)
			}
			if len(legal.Captures(p)) == 0 && len(legal.Moves(p)) > 0 && worth != v {
				t.Errorf("P21.3: %v: %d, and nothing can be taken: %d", p, worth, v)
			}
		}
	}
	if taken < 150 || left < 40 || lost < 4 || won < 4 || even < 150 {
		t.Errorf("P21.1: too little was seen: %d %d %d %d %d", taken, left, lost, won, even)
	}
}

// TestOfGames goes through games from the start, in which much stands to be taken.
func TestOfGames(t *testing.T) {
	t.Parallel()
	trees := tree{}
	r := random(2862933555777941757)
	for range 3 {
		p := start
		for range 16 {
			may := legal.Moves(p)
			if len(may) == 0 {
				break
			}
			p, _, _ = legal.Make(p, may[r.below(len(may))])
			if got, worth := quiet.Of(p), trees.of(p); got != worth {
				t.Errorf("P21.1: Of %v: got %d, want %d", p, got, worth)
			}
		}
	}
}

// TestNoMoment tells that neither Clock nor Full is of moment.
func TestNoMoment(t *testing.T) {
	t.Parallel()
	for _, p := range scattered(60, "RNCPrncp") {
		p.Clock, p.Full = 0, 1
		worth := quiet.Of(p)
		for _, clock := range []int{1, 119, 120} {
			for _, full := range []int{1, 5000, 9999} {
				p.Clock, p.Full = clock, full
				holds(t, p, worth)
			}
		}
	}
}

// TestDense takes boards with nearly all pieces on them, where a plain tree would take far too long: what Window tells
// must be what Of tells.
func TestDense(t *testing.T) {
	t.Parallel()
	for _, p := range scattered(12, "AaAaBbBbNNnnRRrrCCccPPPPPppppp") {
		worth := quiet.Of(p)
		holds(t, p, worth)
		holds(t, turned(p), worth)
		best := value.Of(p)
		for _, m := range legal.Captures(p) {
			q, _, _ := legal.Make(p, m)
			best = max(best, -quiet.Of(q))
		}
		if worth != -10000 && worth != best {
			t.Errorf("P21.1: Of %v: got %d, want %d", p, worth, best)
		}
	}
}
