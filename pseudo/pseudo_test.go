package pseudo_test

import (
	"math"
	"slices"
	"strings"
	"testing"

	"riverbank/api"
	"riverbank/board"
	"riverbank/place"
	"riverbank/pseudo"
	"riverbank/reach"
)

const (
	red   = "KABNRCP"
	black = "kabnrcp"
)

var start = api.Position{Cells: api.Start, Full: 1}

// with is an empty board on which these pieces stand, each on its square.
func with(pieces string, squares ...int) string {
	cells := []byte(strings.Repeat(".", 90))
	for i, n := range squares {
		cells[n] = pieces[i]
	}
	return string(cells)
}

// random is a row of numbers that is the same each time.
type random uint64

// below is its next one, from 0 on.
func (r *random) below(n int) int {
	*r ^= *r << 13
	*r ^= *r >> 7
	*r ^= *r << 17
	return int(*r % random(n))
}

// positions are ones that place.Check finds right: the start, and scattered ones in which generals face one
// another and are attacked, whosever move it is.
func positions() []api.Position {
	l := []api.Position{
		start,
		{Cells: api.Start, Side: 1, Clock: 120, Full: 9999},
		{Cells: with("Kk", 4, 85), Clock: 120, Full: 9999},
		{Cells: with("KkR", 3, 85, 76), Clock: 119, Full: 9998},
		{Cells: with("Kkp", 13, 85, 22), Side: 1, Full: 9998},
	}
	r := random(88172645463325252)
	for range 120 {
		cells := with("")
		for _, c := range []byte("KkAaAaBbBbNNnnRRrrCCccPPPPPppppp") {
			points := place.Points(c)
			n := points[r.below(len(points))]
			if cells[n] == '.' && (c == 'K' || c == 'k' || r.below(3) > 0) {
				cells = board.Put(cells, n, c)
			}
		}
		l = append(l, api.Position{Cells: cells, Side: r.below(2), Clock: r.below(121), Full: 1 + r.below(9999)})
	}
	return l
}

// refused are positions that place.Check finds wrong, each with the error that it tells.
func refused() map[api.Position]api.Errno {
	crowded := board.Put(api.Start, 40, 'R')
	misplaced := board.Put(board.Put(api.Start, 0, 'B'), 2, 'R')
	return map[api.Position]api.Errno{
		{}:                                                        api.ErrArg,
		{Cells: api.Start, Full: 0}:                               api.ErrArg,
		{Cells: api.Start, Full: 10000}:                           api.ErrArg,
		{Cells: api.Start, Full: 1, Clock: -1}:                    api.ErrArg,
		{Cells: api.Start, Full: 1, Clock: 121}:                   api.ErrArg,
		{Cells: api.Start, Full: 1, Side: -1}:                     api.ErrArg,
		{Cells: api.Start, Full: 1, Side: 2}:                      api.ErrArg,
		{Cells: api.Start, Full: math.MinInt, Clock: math.MaxInt}: api.ErrArg,
		{Cells: api.Start[1:], Full: 1}:                           api.ErrArg,
		{Cells: api.Start + ".", Full: 1}:                         api.ErrArg,
		{Cells: strings.Replace(api.Start, "N", "H", 1), Full: 1}: api.ErrArg,
		{Cells: strings.Replace(api.Start, ".", " ", 1), Full: 1}: api.ErrArg,
		{Cells: crowded}:                                          api.ErrArg,
		{Cells: crowded, Full: 1}:                                 api.ErrCount,
		{Cells: board.Put(misplaced, 4, '.'), Full: 1}:            api.ErrCount,
		{Cells: board.Put(api.Start, 85, '.'), Side: 1, Full: 1}:  api.ErrCount,
		{Cells: board.Put(api.Start, 13, 'K'), Full: 1}:           api.ErrCount,
		{Cells: misplaced, Full: 1}:                               api.ErrPlace,
		{Cells: misplaced, Side: 1, Full: 1}:                      api.ErrPlace,
		{Cells: board.Put(with("Kk", 4, 84), 9, 'P'), Full: 1}:    api.ErrPlace,
		{Cells: with("Kk", 31, 85), Clock: 120, Full: 9999}:       api.ErrPlace,
	}
}

// plain are the moves of a position, square by square.
func plain(p api.Position) []api.Move {
	letters := red
	if p.Side == 1 {
		letters = black
	}
	var l []api.Move
	for from := range 90 {
		for to := range 90 {
			if strings.IndexByte(letters, p.Cells[from]) >= 0 && reach.Can(p.Cells, from, to) {
				l = append(l, api.Move{From: from, To: to})
			}
		}
	}
	return l
}

func taking(p api.Position, l []api.Move) []api.Move {
	return slices.DeleteFunc(slices.Clone(l), func(m api.Move) bool { return p.Cells[m.To] == '.' })
}

func TestMovesOfTheStart(t *testing.T) {
	captures := [][]api.Move{{{From: 19, To: 82}, {From: 25, To: 88}}, {{From: 64, To: 1}, {From: 70, To: 7}}}
	for side, want := range captures {
		p := api.Position{Cells: api.Start, Side: side, Full: 1}
		if l := pseudo.Moves(p); len(l) != 44 {
			t.Errorf("P6.1: side %d: %v", side, l)
		}
		if l := pseudo.Captures(p); !slices.Equal(l, want) {
			t.Errorf("P6.1: side %d: %v", side, l)
		}
	}
}

func TestMovesOfPositions(t *testing.T) {
	generals := 0
	for _, p := range positions() {
		want := plain(p)
		if l := pseudo.Moves(p); !slices.Equal(l, want) {
			t.Errorf("P6.1: %#v: got %v, want %v", p, l, want)
		}
		if l := pseudo.Captures(p); !slices.Equal(l, taking(p, want)) {
			t.Errorf("P6.1: %#v: got %v, want %v", p, l, taking(p, want))
		}
		generals += len(slices.DeleteFunc(want, func(m api.Move) bool { return board.Kind(p.Cells[m.To]) != 'K' }))
	}
	if generals == 0 {
		t.Error("P6.1: no position in which a general is taken")
	}
}

func TestMovesWhateverComesOfThem(t *testing.T) {
	// A general that steps beside a chariot, and one that the chariot takes: both are moves as pieces reach.
	p := api.Position{Cells: with("Kkr", 4, 84, 14), Full: 1}
	if l := pseudo.Moves(p); !slices.Equal(l, []api.Move{{From: 4, To: 3}, {From: 4, To: 5}, {From: 4, To: 13}}) {
		t.Errorf("P6.1: %v", l)
	}
	p = api.Position{Cells: with("Kkr", 4, 84, 13), Side: 1, Full: 1}
	if l := pseudo.Captures(p); !slices.Equal(l, []api.Move{{From: 13, To: 4}}) {
		t.Errorf("P6.1: %v", l)
	}
	// Generals that face one another: their sides have moves all the same.
	p = api.Position{Cells: with("Kk", 4, 85), Full: 1}
	if l := pseudo.Moves(p); len(l) != 3 || len(pseudo.Captures(p)) != 0 {
		t.Errorf("P6.1: %v", l)
	}
	// A side that is shut in has none.
	p = api.Position{Cells: with("KAANpppk", 4, 3, 5, 13, 12, 14, 22, 85), Full: 1}
	if l := pseudo.Moves(p); len(l) != 0 || len(pseudo.Captures(p)) != 0 {
		t.Errorf("P6.1: %v", l)
	}
}

func TestNoMovesOfWrongPositions(t *testing.T) {
	for p, want := range refused() {
		if l := pseudo.Moves(p); len(l) != 0 {
			t.Errorf("P6.1: %#v: %v", p, l)
		}
		if l := pseudo.Captures(p); len(l) != 0 {
			t.Errorf("P6.1: %#v: %v", p, l)
		}
		for _, m := range []api.Move{{From: 27, To: 36}, {From: 54, To: 45}, {From: 0, To: 90}, {From: 40, To: 49}, {}} {
			wantRefused(t, p, m, want)
		}
	}
}

func wantRefused(t *testing.T, p api.Position, m api.Move, want api.Errno) {
	t.Helper()
	if q, taken, e := pseudo.Apply(p, m); q != (api.Position{}) || taken != 0 || e != want {
		t.Errorf("P6.2: %#v, %v: %#v, %d, got %d, want %d", p, m, q, taken, e, want)
	}
}

func wantApplied(t *testing.T, p api.Position, m api.Move, want api.Position, wantTaken byte) {
	t.Helper()
	if q, taken, e := pseudo.Apply(p, m); q != want || taken != wantTaken || e != api.OK {
		t.Errorf("P6.2: %#v, %v: got %#v, %d, %d, want %#v, %d", p, m, q, taken, e, want, wantTaken)
	}
}

// behind is the position behind a move, told from the chapter's words; and what was taken.
func behind(p api.Position, m api.Move) (api.Position, byte) {
	cells := board.Put(board.Put(p.Cells, m.To, p.Cells[m.From]), m.From, '.')
	q := api.Position{Cells: cells, Side: 1 - p.Side, Clock: p.Clock + 1, Full: p.Full + p.Side}
	if q.Clock == 121 {
		q.Clock = 120
	}
	if q.Full == 10000 {
		q.Full = 9999
	}
	taken := p.Cells[m.To]
	if taken == '.' {
		return q, 0
	}
	q.Clock = 0
	return q, taken
}

func TestApplyOfAllMoves(t *testing.T) {
	for _, p := range positions() {
		moves := plain(p)
		for from := -1; from <= 90; from++ {
			for to := -1; to <= 90; to++ {
				m := api.Move{From: from, To: to}
				if !slices.Contains(moves, m) || board.Kind(p.Cells[to]) == 'K' {
					wantRefused(t, p, m, api.ErrMove)
					continue
				}
				q, taken := behind(p, m)
				wantApplied(t, p, m, q, taken)
			}
		}
	}
}

func TestApplyRefuses(t *testing.T) {
	far := []int{math.MinInt, -1 << 32, -90, -1, 90, 1 << 32, 1<<32 + 27, math.MaxInt}
	for _, n := range far {
		wantRefused(t, start, api.Move{From: 27, To: n}, api.ErrMove)
		wantRefused(t, start, api.Move{From: n, To: 36}, api.ErrMove)
		wantRefused(t, start, api.Move{From: n, To: n}, api.ErrMove)
	}
	wantRefused(t, start, api.Move{}, api.ErrMove)
	wantRefused(t, start, api.Move{From: 40, To: 49}, api.ErrMove) // nothing stands there
	wantRefused(t, start, api.Move{From: 54, To: 45}, api.ErrMove) // it is not black's move
	wantRefused(t, start, api.Move{From: 0, To: 1}, api.ErrMove)   // a piece of its own side
	wantRefused(t, start, api.Move{From: 19, To: 64}, api.ErrMove) // over nothing a cannon takes nothing
}

func TestNoGeneralIsTaken(t *testing.T) {
	for _, c := range []struct {
		p api.Position
		m api.Move
	}{
		{api.Position{Cells: with("KkR", 4, 85, 31), Full: 1}, api.Move{From: 31, To: 85}},
		{api.Position{Cells: with("KkP", 4, 85, 76), Clock: 120, Full: 9999}, api.Move{From: 76, To: 85}},
		{api.Position{Cells: with("KkN", 4, 85, 66), Full: 1}, api.Move{From: 66, To: 85}},
		{api.Position{Cells: with("Kkcp", 13, 85, 76, 40), Side: 1, Full: 1}, api.Move{From: 76, To: 13}},
	} {
		// It is a move as pieces reach; but nobody makes it.
		if !slices.Contains(pseudo.Moves(c.p), c.m) || !slices.Contains(pseudo.Captures(c.p), c.m) {
			t.Errorf("P6.1: %#v: not %v", c.p, c.m)
		}
		wantRefused(t, c.p, c.m, api.ErrMove)
	}
	wantRefused(t, api.Position{}, api.Move{From: 31, To: 85}, api.ErrArg)
}

func TestClockAndFull(t *testing.T) {
	cells := with("KkRnr", 4, 84, 36, 45, 53)
	step, take := api.Move{From: 36, To: 37}, api.Move{From: 36, To: 45}
	for _, n := range []int{0, 1, 118, 119, 120} {
		for _, full := range []int{1, 2, 9997, 9998, 9999} {
			p := api.Position{Cells: cells, Clock: n, Full: full}
			q := api.Position{Cells: with("KkRnr", 4, 84, 37, 45, 53), Side: 1, Clock: min(n+1, 120), Full: full}
			wantApplied(t, p, step, q, 0)
			q = api.Position{Cells: with("KkRr", 4, 84, 45, 53), Side: 1, Full: full}
			wantApplied(t, p, take, q, 'n')
			p.Side = 1
			q = api.Position{Cells: with("KkRnr", 4, 84, 36, 45, 44), Clock: min(n+1, 120), Full: min(full+1, 9999)}
			wantApplied(t, p, api.Move{From: 53, To: 44}, q, 0)
			p.Cells = with("KkRnr", 4, 84, 36, 46, 45)
			q = api.Position{Cells: with("Kkrn", 4, 84, 36, 46), Full: min(full+1, 9999)}
			wantApplied(t, p, api.Move{From: 45, To: 36}, q, 'R')
		}
	}
}

func TestBehindIsAsRight(t *testing.T) {
	r := random(1442695040888963407)
	for _, p := range positions() {
		for range 60 {
			l := pseudo.Moves(p)
			if len(l) == 0 {
				break
			}
			q, _, e := pseudo.Apply(p, l[r.below(len(l))])
			if e == api.ErrMove {
				continue
			}
			if e != api.OK || place.Check(q) != api.OK {
				t.Fatalf("P6.3: %#v: %#v, %d", p, q, e)
			}
			p = q
		}
	}
}

func TestFromTheOtherSide(t *testing.T) {
	for _, p := range positions() {
		q := api.Position{Cells: board.Turn(p.Cells), Side: 1 - p.Side, Clock: p.Clock, Full: p.Full}
		l := pseudo.Moves(q)
		slices.Reverse(l)
		for i, m := range l {
			l[i] = api.Move{From: 89 - m.From, To: 89 - m.To}
		}
		if want := pseudo.Moves(p); !slices.Equal(l, want) {
			t.Errorf("P7: %#v: %v, turned %v", p, want, l)
		}
	}
}

func TestMovesAreNew(t *testing.T) {
	pseudo.Moves(start)[0] = api.Move{From: 1, To: 2}
	pseudo.Captures(start)[0] = api.Move{From: 1, To: 2}
	if pseudo.Moves(start)[0] != (api.Move{From: 0, To: 9}) || pseudo.Captures(start)[0] != (api.Move{From: 19, To: 82}) {
		t.Error("R5: moves are no new memory")
	}
}
