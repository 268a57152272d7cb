package legal_test

import (
	"math"
	"slices"
	"strings"
	"testing"

	"riverbank/api"
	"riverbank/board"
	"riverbank/check"
	"riverbank/fen"
	"riverbank/legal"
	"riverbank/place"
	"riverbank/pseudo"
	"riverbank/reach"
)

var start = api.Position{Cells: api.Start, Full: 1}

// with is an empty board on which these pieces stand, each on its square.
func with(pieces string, squares ...int) string {
	cells := []byte(strings.Repeat(".", 90))
	for i, n := range squares {
		cells[n] = pieces[i]
	}
	return string(cells)
}

// at is a position with red's move.
func at(pieces string, squares ...int) api.Position {
	return api.Position{Cells: with(pieces, squares...), Full: 1}
}

// turned is a position from the other side.
func turned(p api.Position) api.Position {
	return api.Position{Cells: board.Turn(p.Cells), Side: 1 - p.Side, Clock: p.Clock, Full: p.Full}
}

// turnedMoves are moves from the other side, in their order there.
func turnedMoves(l []api.Move) []api.Move {
	t := slices.Clone(l)
	slices.Reverse(t)
	for i, m := range t {
		t[i] = api.Move{From: 89 - m.From, To: 89 - m.To}
	}
	return t
}

// random is a row of numbers that is the same each time.
type random uint64

// below is its next one, from 0 on.
func (r *random) below(n int) int {
	*r ^= *r << 13
	*r ^= *r >> 7
	*r ^= *r << 17
	return int(*r % random(n))
}

// positions are ones that place.Check finds right: scattered ones, in which generals face one another and are
// attacked, whosever move it is.
func positions() []api.Position {
	l := []api.Position{start, {Cells: api.Start, Side: 1, Clock: 120, Full: 9999}}
	r := random(88172645463325252)
	for i := range 400 {
		cells := with("")
		for _, c := range []byte("KkAaAaBbBbNNnnRRrrCCccPPPPPppppp") {
			points := place.Points(c)
			n := points[r.below(len(points))]
			if cells[n] == '.' && (c == 'K' || c == 'k' || r.below(8) > i%8) {
				cells = board.Put(cells, n, c)
			}
		}
		l = append(l, api.Position{Cells: cells, Side: r.below(2), Clock: r.below(121), Full: 1 + r.below(9999)})
	}
	return l
}

// isSafe tells, by looking along the file and at each piece, whether nobody of the other side could take a side's
// general on a board, and the generals do not face one another.
func isSafe(cells string, side int) bool {
	k, j := strings.IndexByte(cells, 'K'), strings.IndexByte(cells, 'k')
	if k%9 == j%9 {
		stands := 0
		for n := k + 9; n < j; n += 9 {
			if cells[n] != '.' {
				stands++
			}
		}
		if stands == 0 {
			return false
		}
	}
	for n := range 90 {
		if board.Side(cells[n]) == 1-side && reach.Can(cells, n, [2]int{k, j}[side]) {
			return false
		}
	}
	return true
}

// plain are the moves of a position, told from the chapter's words.
func plain(p api.Position) []api.Move {
	var l []api.Move
	if !isSafe(p.Cells, 1-p.Side) {
		return nil
	}
	for _, m := range pseudo.Moves(p) {
		cells := board.Put(board.Put(p.Cells, m.To, p.Cells[m.From]), m.From, '.')
		if board.Kind(p.Cells[m.To]) != 'K' && isSafe(cells, p.Side) {
			l = append(l, m)
		}
	}
	return l
}

func taking(p api.Position, l []api.Move) []api.Move {
	return slices.DeleteFunc(slices.Clone(l), func(m api.Move) bool { return p.Cells[m.To] == '.' })
}

// plainEnd is how a position ends, told from the chapter's words.
func plainEnd(p api.Position) int {
	switch {
	case !isSafe(p.Cells, 1-p.Side), len(plain(p)) > 0:
		return 0
	case isSafe(p.Cells, p.Side):
		return 2
	}
	return 1
}

func wantMoves(t *testing.T, p api.Position, want []api.Move) {
	t.Helper()
	if l := legal.Moves(p); !slices.Equal(l, want) {
		t.Errorf("P8.1: Moves of %#v: got %v, want %v", p, l, want)
	}
	if l := legal.Captures(p); !slices.Equal(l, taking(p, want)) {
		t.Errorf("P8.1: Captures of %#v: got %v, want %v", p, l, taking(p, want))
	}
}

func wantEnd(t *testing.T, p api.Position, want int) {
	t.Helper()
	if got := legal.End(p); got != want {
		t.Errorf("P8.3: %#v: got %d, want %d", p, got, want)
	}
}

func wantMade(t *testing.T, p api.Position, m api.Move) {
	t.Helper()
	want, wantTaken, e := pseudo.Apply(p, m)
	if e != api.OK {
		t.Fatalf("%#v, %v: %d", p, m, e)
	}
	if q, taken, e := legal.Make(p, m); q != want || taken != wantTaken || e != api.OK {
		t.Errorf("P8.2: %#v, %v: got %#v, %d, %d, want %#v, %d", p, m, q, taken, e, want, wantTaken)
	}
	if !legal.Is(p, m) {
		t.Errorf("P8.1: Is of %#v, %v: false", p, m)
	}
}

func wantRefused(t *testing.T, p api.Position, m api.Move, want api.Errno) {
	t.Helper()
	if q, taken, e := legal.Make(p, m); q != (api.Position{}) || taken != 0 || e != want {
		t.Errorf("P8.2: %#v, %v: %#v, %d, got %d, want %d", p, m, q, taken, e, want)
	}
	if legal.Is(p, m) {
		t.Errorf("P8.1: Is of %#v, %v: true", p, m)
	}
}

func TestMovesOfTheStart(t *testing.T) {
	captures := [][]api.Move{{{From: 19, To: 82}, {From: 25, To: 88}}, {{From: 64, To: 1}, {From: 70, To: 7}}}
	for side, want := range captures {
		p := api.Position{Cells: api.Start, Side: side, Full: 1}
		if l := legal.Moves(p); len(l) != 44 {
			t.Errorf("P8.1: side %d: %v", side, l)
		}
		if l := legal.Captures(p); !slices.Equal(l, want) {
			t.Errorf("P8.1: side %d: %v", side, l)
		}
		wantEnd(t, p, api.NoReason)
	}
}

// lines is how many lines of just so many moves there are.
func lines(p api.Position, depth int) int {
	moves := legal.Moves(p)
	if depth == 1 {
		return len(moves)
	}
	count := 0
	for _, m := range moves {
		q, _, _ := legal.Make(p, m)
		count += lines(q, depth-1)
	}
	return count
}

func TestLinesAreThoseOfThePlainRules(t *testing.T) {
	// These numbers are known of other programs, too.
	for s, want := range map[string][3]int{
		"rnbakabnr/9/1c5c1/p1p1p1p1p/9/9/P1P1P1P1P/1C5C1/9/RNBAKABNR w":  {44, 1920, 79666},
		"r1ba1a3/4kn3/2n1b4/pNp1p1p1p/4c4/6P2/P1P2R2P/1CcC5/9/2BAKAB2 w": {38, 1128, 43929},
		"1cbak4/9/n2a5/2p1p3p/5cp2/2n2N3/6PCP/3AB4/2C6/3A1K1N1 w":        {7, 281, 8620},
		"5a3/3k5/3aR4/9/5r3/5n3/9/3A1A3/5K3/2BC2B2 w":                    {25, 424, 9850},
		"CRN1k1b2/3ca4/4ba3/9/2nr5/9/9/4B4/4A4/4KA3 w":                   {28, 516, 14808},
		"R1N1k1b2/9/3aba3/9/2nr5/2B6/9/4B4/4A4/4KA3 w":                   {21, 364, 7626},
		"C1nNk4/9/9/9/9/9/n1pp5/B3C4/9/3A1K3 w":                          {28, 222, 6241},
		"4ka3/4a4/9/9/4N4/p8/9/4C3c/7n1/2BK5 w":                          {23, 345, 8124},
		"2b1ka3/9/b3N4/4n4/9/9/9/4C4/2p6/2BK5 w":                         {21, 195, 3883},
		"1C2ka3/9/C1Nab1n2/p3p3p/6p2/9/P3P3P/3AB4/3p2c2/c1BAK4 w":        {30, 830, 22787},
		"CnN1k1b2/c3a4/4ba3/9/2nr5/9/9/4C4/4A4/4KA3 w":                   {19, 583, 11714},
	} {
		p, e := fen.Parse(s)
		if e != api.OK {
			t.Fatalf("%q: %d", s, e)
		}
		for i, n := range want {
			if got := lines(p, i+1); got != n {
				t.Errorf("P8.1: %q, %d moves: got %d lines, want %d", s, i+1, got, n)
			}
		}
	}
}

func TestMovesOfPositions(t *testing.T) {
	right, moves, captures := 0, 0, 0
	ends := map[int]int{}
	for _, p := range positions() {
		want := plain(p)
		wantMoves(t, p, want)
		wantEnd(t, p, plainEnd(p))
		if isSafe(p.Cells, 1-p.Side) {
			right++
			ends[plainEnd(p)]++
		}
		moves += len(want)
		captures += len(taking(p, want))
	}
	if right < 50 || moves < 1000 || captures < 100 || ends[0] == 0 || ends[1] == 0 {
		t.Errorf("P8.1: too little is seen: %d, %d, %d, %v", right, moves, captures, ends)
	}
}

func TestWhatMayBeMade(t *testing.T) {
	for name, c := range map[string]struct {
		p    api.Position
		want []api.Move
	}{
		"a general alone may not face the other": {
			at("Kk", 4, 84), []api.Move{{From: 4, To: 5}, {From: 4, To: 13}},
		},
		"what stands between the generals stays on their file": {
			at("KNk", 4, 13, 85), []api.Move{{From: 4, To: 3}, {From: 4, To: 5}},
		},
		"but along the file it goes": {
			at("KPk", 4, 40, 85), []api.Move{{From: 4, To: 3}, {From: 4, To: 5}, {From: 4, To: 13}, {From: 40, To: 49}},
		},
		"of two that stand between one may go": {
			at("KPnk", 4, 49, 58, 85), []api.Move{{From: 4, To: 3}, {From: 4, To: 5}, {From: 4, To: 13}, {From: 49, To: 48}, {From: 49, To: 50}, {From: 49, To: 58}},
		},
		"a piece that is pinned may take what pins it": {
			at("KRrk", 4, 13, 31, 84), []api.Move{{From: 4, To: 5}, {From: 13, To: 22}, {From: 13, To: 31}},
		},
		"from an attack by a chariot the general goes, or somebody stands between, or takes it": {
			at("KBRrk", 4, 2, 29, 40, 84),
			[]api.Move{{From: 2, To: 22}, {From: 4, To: 5}, {From: 29, To: 31}},
		},
		"what attacks the general is taken, where nothing else helps": {
			at("KAANrk", 4, 3, 5, 32, 13, 84),
			[]api.Move{{From: 3, To: 13}, {From: 4, To: 13}, {From: 5, To: 13}, {From: 32, To: 13}},
		},
		"a general does not take what is guarded": {
			at("Krrk", 4, 13, 17, 84), []api.Move{{From: 4, To: 5}},
		},
		"a general does not step where it is attacked": {
			at("Kpck", 4, 22, 35, 84), []api.Move{{From: 4, To: 5}},
		},
		"a cannon's screen goes away": {
			at("KRckb", 4, 22, 31, 84, 67), []api.Move{
				{From: 4, To: 5}, {From: 22, To: 18}, {From: 22, To: 19}, {From: 22, To: 20}, {From: 22, To: 21},
				{From: 22, To: 23}, {From: 22, To: 24}, {From: 22, To: 25}, {From: 22, To: 26}, {From: 22, To: 31},
			},
		},
		"nobody steps between a cannon and the general": {
			at("KAck", 4, 5, 31, 84), []api.Move{{From: 4, To: 13}},
		},
		"from an attack by a horse the general goes, or its leg is stopped": {
			at("KRnk", 4, 17, 23, 84), []api.Move{{From: 4, To: 5}, {From: 4, To: 13}, {From: 17, To: 14}},
		},
		"of two attacks none is met by one piece, but the general goes": {
			at("KRrnk", 4, 26, 31, 21, 84), []api.Move{{From: 4, To: 3}, {From: 4, To: 5}},
		},
	} {
		wanted := plain(c.p)
		if !slices.Equal(wanted, c.want) {
			t.Errorf("%s: the table says %v, the plain rules %v", name, c.want, wanted)
		}
		wantMoves(t, c.p, c.want)
		wantEnd(t, c.p, api.NoReason)
		q := turned(c.p)
		wantMoves(t, q, turnedMoves(c.want))
		wantEnd(t, q, api.NoReason)
		for _, m := range pseudo.Moves(c.p) {
			if !slices.Contains(c.want, m) {
				wantRefused(t, c.p, m, api.ErrMove)
			}
		}
	}
}

func TestOwnFileIsNotOpened(t *testing.T) {
	p := at("KNk", 4, 40, 85)
	for _, m := range pseudo.Moves(p) {
		if m.From == 40 {
			wantRefused(t, p, m, api.ErrMove)
		}
	}
	// If it takes what stands there beside, the file is open all the same.
	wantRefused(t, at("KNkn", 4, 40, 85, 59), api.Move{From: 40, To: 59}, api.ErrMove)
	wantMade(t, at("KNkp", 4, 40, 85, 58), api.Move{From: 40, To: 59})
}

func TestNoGeneralIsTaken(t *testing.T) {
	// Whoever could take the general is in no right position.
	wantRefused(t, at("KkR", 4, 84, 39), api.Move{From: 39, To: 84}, api.ErrCheck)
	wantRefused(t, at("KkR", 4, 84, 39), api.Move{From: 39, To: 30}, api.ErrCheck)
	wantRefused(t, at("Kk", 4, 85), api.Move{From: 4, To: 85}, api.ErrFacing)
}

func TestEnd(t *testing.T) {
	for _, c := range []struct {
		p    api.Position
		want int
	}{
		{at("Kkrr", 4, 84, 0, 12), api.Mate},
		{at("Kkrr", 4, 84, 0, 13), api.NoReason}, // the general takes what attacks it
		{at("Kkrn", 4, 84, 13, 24), api.Mate},    // but not what is guarded
		{at("Kkr", 4, 84, 0), api.NoReason},
		{at("Kkrr", 4, 86, 0, 9), api.Mate},
		{at("KkrrR", 4, 86, 0, 10, 27), api.NoReason}, // another piece takes what attacks it
		{at("KkrrR", 4, 86, 0, 10, 28), api.Mate},     // or what does not
		{at("Kkr", 4, 86, 12), api.Stale},
		{at("KkrP", 4, 86, 12, 27), api.NoReason}, // a pawn goes
		{at("Kkp", 4, 85, 13), api.NoReason},
		{at("Kkpppp", 4, 85, 13, 12, 14, 22), api.Mate},
		{at("KAAkcc", 4, 3, 5, 84, 40, 49), api.Mate},
		{at("KAAkccR", 4, 3, 5, 84, 40, 49, 36), api.Mate},
		{at("KAAkccR", 4, 3, 5, 84, 40, 49, 45), api.NoReason},
	} {
		wantEnd(t, c.p, plainEnd(c.p))
		wantEnd(t, c.p, c.want)
		wantEnd(t, turned(c.p), c.want)
		if (len(legal.Moves(c.p)) == 0) != (c.want != api.NoReason) {
			t.Errorf("P8.3: %#v: %v", c.p, legal.Moves(c.p))
		}
	}
}

// refused are positions that are not right, each with what is wrong with it first.
func refused() map[api.Position]api.Errno {
	facing, attacked := with("Kk", 4, 85), with("KkR", 4, 84, 81)
	misplaced := with("KkB", 4, 85, 3)
	return map[api.Position]api.Errno{
		{}:                                      api.ErrArg,
		{Cells: api.Start}:                      api.ErrArg,
		{Cells: api.Start, Full: 10000}:         api.ErrArg,
		{Cells: api.Start, Full: 1, Clock: -1}:  api.ErrArg,
		{Cells: api.Start, Full: 1, Clock: 121}: api.ErrArg,
		{Cells: api.Start, Full: 1, Side: -1}:   api.ErrArg,
		{Cells: api.Start, Full: 1, Side: 2}:    api.ErrArg,
		{Cells: api.Start, Full: math.MinInt, Clock: math.MaxInt, Side: math.MinInt}: api.ErrArg,
		{Cells: api.Start[1:], Full: 1}:                                              api.ErrArg,
		{Cells: api.Start + ".", Full: 1}:                                            api.ErrArg,
		{Cells: strings.Replace(api.Start, "N", "H", 1), Full: 1}:                    api.ErrArg,
		{Cells: strings.Repeat("\x00", 90), Full: 1}:                                 api.ErrArg,
		{Cells: facing, Side: 2, Full: 1}:                                            api.ErrArg,
		{Cells: attacked, Full: 0}:                                                   api.ErrArg,
		{Cells: with(""), Full: 1}:                                                   api.ErrCount,
		{Cells: board.Put(facing, 4, '.'), Full: 1}:                                  api.ErrCount,
		{Cells: board.Put(misplaced, 5, 'K'), Full: 1}:                               api.ErrCount,
		{Cells: misplaced, Full: 1}:                                                  api.ErrPlace,
		{Cells: misplaced, Side: 1, Full: 1}:                                         api.ErrPlace,
		{Cells: facing, Full: 1}:                                                     api.ErrFacing,
		{Cells: facing, Side: 1, Full: 1}:                                            api.ErrFacing,
		{Cells: board.Put(facing, 81, 'R'), Full: 1}:                                 api.ErrFacing,
		{Cells: attacked, Full: 1}:                                                   api.ErrCheck,
		{Cells: board.Turn(attacked), Side: 1, Full: 1}:                              api.ErrCheck,
		{Cells: with("KkRr", 4, 84, 81, 0), Full: 1}:                                 api.ErrCheck,
		{Cells: with("KkRr", 4, 84, 81, 0), Side: 1, Full: 1}:                        api.ErrCheck,
	}
}

func TestNothingOfWrongPositions(t *testing.T) {
	for p, want := range refused() {
		wantMoves(t, p, nil)
		wantEnd(t, p, api.NoReason)
		for _, m := range []api.Move{{From: 27, To: 36}, {From: 54, To: 45}, {From: 4, To: 5}, {From: 85, To: 86}, {From: 81, To: 84}, {From: 0, To: 90}, {}} {
			wantRefused(t, p, m, want)
		}
	}
}

func TestNoEndOfWrongPositions(t *testing.T) {
	// Positions without a move, in check and not, that are not right besides.
	mate, stale := with("Kkrr", 4, 84, 0, 12), with("Kkr", 4, 86, 12)
	wantEnd(t, api.Position{Cells: mate, Full: 1}, api.Mate)
	wantEnd(t, api.Position{Cells: stale, Full: 1}, api.Stale)
	for _, c := range []struct {
		cells string
		want  api.Errno
	}{
		{board.Put(mate, 11, 'B'), api.ErrPlace},
		{board.Put(stale, 11, 'B'), api.ErrPlace},
		{board.Put(mate, 86, 'k'), api.ErrCount},
		{board.Put(mate, 89, 'R'), api.ErrCheck},
		{with("Kkrr", 4, 85, 12, 14), api.ErrFacing},
	} {
		p := api.Position{Cells: c.cells, Full: 1}
		if e := check.Well(p); e != c.want {
			t.Errorf("%#v: %d", p, e)
		}
		if slices.ContainsFunc(pseudo.Moves(p), func(m api.Move) bool {
			q, _, e := pseudo.Apply(p, m)
			return e == api.OK && check.Well(q) == api.OK
		}) {
			t.Errorf("%#v has moves behind which it is right", p)
		}
		wantEnd(t, p, api.NoReason)
	}
	for _, cells := range []string{mate, stale} {
		wantEnd(t, api.Position{Cells: cells}, api.NoReason)
		wantEnd(t, api.Position{Cells: cells, Full: 1, Clock: 121}, api.NoReason)
		wantEnd(t, api.Position{Cells: cells, Full: 1, Side: 2}, api.NoReason)
		wantEnd(t, api.Position{Cells: cells[1:], Full: 1}, api.NoReason)
	}
}

func TestMakeOfAllMoves(t *testing.T) {
	seen := 0
	for _, p := range positions() {
		moves := plain(p)
		if seen == 25 || len(moves) == 0 {
			continue
		}
		seen++
		for from := -1; from <= 90; from++ {
			for to := -1; to <= 90; to++ {
				m := api.Move{From: from, To: to}
				if slices.Contains(moves, m) {
					wantMade(t, p, m)
				} else {
					wantRefused(t, p, m, api.ErrMove)
				}
			}
		}
	}
}

func TestMakeOfMovesThatAreNone(t *testing.T) {
	for _, n := range []int{math.MinInt, -1 << 32, -90, -1, 90, 1 << 32, 1<<32 + 27, math.MaxInt} {
		wantRefused(t, start, api.Move{From: 27, To: n}, api.ErrMove)
		wantRefused(t, start, api.Move{From: n, To: 36}, api.ErrMove)
		wantRefused(t, start, api.Move{From: n, To: n}, api.ErrMove)
	}
	wantRefused(t, start, api.Move{}, api.ErrMove)
	wantRefused(t, start, api.Move{From: 40, To: 49}, api.ErrMove) // nothing stands there
	wantRefused(t, start, api.Move{From: 54, To: 45}, api.ErrMove) // it is not black's move
	wantRefused(t, start, api.Move{From: 0, To: 1}, api.ErrMove)   // a piece of its own side
	wantRefused(t, start, api.Move{From: 19, To: 64}, api.ErrMove) // over nothing a cannon takes nothing
}

func TestClockAndFull(t *testing.T) {
	for _, clock := range []int{0, 1, 119, 120} {
		for _, full := range []int{1, 9998, 9999} {
			for side := range 2 {
				p := api.Position{Cells: api.Start, Side: side, Clock: clock, Full: full}
				for _, m := range legal.Moves(p) {
					wantMade(t, p, m)
				}
			}
		}
	}
	p := api.Position{Cells: api.Start, Side: 1, Clock: 120, Full: 9999}
	if q, taken, e := legal.Make(p, api.Move{From: 64, To: 1}); q.Clock != 0 || q.Full != 9999 || q.Side != 0 || taken != 'N' || e != api.OK {
		t.Errorf("P8.2: %#v, %q, %d", q, taken, e)
	}
	if q, taken, e := legal.Make(p, api.Move{From: 54, To: 45}); q.Clock != 120 || q.Full != 9999 || q.Side != 0 || taken != 0 || e != api.OK {
		t.Errorf("P8.2: %#v, %d, %d", q, taken, e)
	}
}

func TestBehindIsRight(t *testing.T) {
	r := random(1442695040888963407)
	ended := 0
	for range 40 {
		p := start
		for range 150 {
			l := legal.Moves(p)
			if len(l) == 0 {
				ended++
				wantEnd(t, p, plainEnd(p))
				break
			}
			q, _, e := legal.Make(p, l[r.below(len(l))])
			if e != api.OK || check.Well(q) != api.OK || check.In(q.Cells, p.Side) || check.Facing(q.Cells) {
				t.Fatalf("P8.4: %#v: %#v, %d", p, q, e)
			}
			p = q
		}
	}
	if ended == 0 {
		t.Error("P8.4: no game came to an end")
	}
}

func TestFromTheOtherSide(t *testing.T) {
	for _, p := range positions() {
		q := turned(p)
		if l, want := legal.Moves(q), turnedMoves(legal.Moves(p)); !slices.Equal(l, want) {
			t.Errorf("P7: %#v: %v, turned %v", p, want, l)
		}
		wantEnd(t, q, legal.End(p))
	}
}

func TestMovesAreNew(t *testing.T) {
	legal.Moves(start)[0] = api.Move{From: 1, To: 2}
	legal.Captures(start)[0] = api.Move{From: 1, To: 2}
	if legal.Moves(start)[0] != (api.Move{From: 0, To: 9}) || legal.Captures(start)[0] != (api.Move{From: 19, To: 82}) {
		t.Error("R5: moves are no new memory")
	}
}
