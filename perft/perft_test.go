package perft_test

import (
	"math"
	"slices"
	"strings"
	"testing"

	"riverbank/api"
	"riverbank/board"
	"riverbank/check"
	"riverbank/fen"
	"riverbank/legal"
	"riverbank/perft"
	"riverbank/place"
)

var start = api.Position{Cells: api.Start, Full: 1}

// with is an empty board on which these pieces stand, each on its square.
func with(pieces string, squares ...int) string {
	cells := []byte(strings.Repeat(".", 90))
	for i, n := range squares {
		cells[n] = pieces[i]
	}
	return string(cells)
}

// at is a position with red's move.
func at(pieces string, squares ...int) api.Position {
	return api.Position{Cells: with(pieces, squares...), Full: 1}
}

// turned is a position from the other side.
func turned(p api.Position) api.Position {
	return api.Position{Cells: board.Turn(p.Cells), Side: 1 - p.Side, Clock: p.Clock, Full: p.Full}
}

func parsed(t *testing.T, s string) api.Position {
	t.Helper()
	p, e := fen.Parse(s)
	if e != api.OK {
		t.Fatalf("%q: %d", s, e)
	}
	return p
}

// random is a row of numbers that is the same each time.
type random uint64

// below is its next one, from 0 on.
func (r *random) below(n int) int {
	*r ^= *r << 13
	*r ^= *r >> 7
	*r ^= *r << 17
	return int(*r % random(n))
}

// positions are scattered ones that are right, whosever move it is.
func positions() []api.Position {
	var l []api.Position
	r := random(88172645463325252)
	for i := range 300 {
		cells := with("")
		for _, c := range []byte("KkAaAaBbBbNNnnRRrrCCccPPPPPppppp") {
			points := place.Points(c)
			n := points[r.below(len(points))]
			if cells[n] == '.' && (c == 'K' || c == 'k' || r.below(8) > i%8) {
				cells = board.Put(cells, n, c)
			}
		}
		p := api.Position{Cells: cells, Side: r.below(2), Clock: r.below(121), Full: 1 + r.below(9999)}
		if check.Well(p) == api.OK {
			l = append(l, p)
		}
	}
	return l
}

// plain is how many lines of so many moves there are, gone through one by one.
func plain(p api.Position, depth int) int {
	if depth == 0 {
		return 1
	}
	count := 0
	for _, m := range legal.Moves(p) {
		q, _, _ := legal.Make(p, m)
		count += plain(q, depth-1)
	}
	return count
}

// plainSplits are the same, by their first moves.
func plainSplits(p api.Position, depth int) []perft.Split {
	var l []perft.Split
	for _, m := range legal.Moves(p) {
		q, _, _ := legal.Make(p, m)
		l = append(l, perft.Split{Move: m, Count: plain(q, depth-1)})
	}
	return l
}

func sum(l []perft.Split) int {
	n := 0
	for _, s := range l {
		n += s.Count
	}
	return n
}

func wantCount(t *testing.T, p api.Position, depth int, want int) {
	t.Helper()
	if n, e := perft.Count(p, depth); n != want || e != api.OK {
		t.Errorf("P11.1: %#v, depth %d: got %d, %d, want %d", p, depth, n, e, want)
	}
	if depth == 0 {
		return
	}
	if l, e := perft.Splits(p, depth); sum(l) != want || e != api.OK {
		t.Errorf("P11.3: %#v, depth %d: together got %d, %d, want %d", p, depth, sum(l), e, want)
	}
}

func wantSplits(t *testing.T, p api.Position, depth int, want []perft.Split) {
	t.Helper()
	if l, e := perft.Splits(p, depth); !slices.Equal(l, want) || e != api.OK {
		t.Errorf("P11.2: %#v, depth %d: got %v, %d, want %v", p, depth, l, e, want)
	}
	wantCount(t, p, depth, sum(want))
}

func wantRefused(t *testing.T, p api.Position, depth int, want api.Errno) {
	t.Helper()
	if n, e := perft.Count(p, depth); n != 0 || e != want {
		t.Errorf("P11.1: %#v, depth %d: %d, got %d, want %d", p, depth, n, e, want)
	}
	wantNoSplits(t, p, depth, want)
}

func wantNoSplits(t *testing.T, p api.Position, depth int, want api.Errno) {
	t.Helper()
	if l, e := perft.Splits(p, depth); len(l) != 0 || e != want {
		t.Errorf("P11.2: %#v, depth %d: %v, got %d, want %d", p, depth, l, e, want)
	}
}

func TestCountsThatAreKnown(t *testing.T) {
	// These numbers are known of other programs, too.
	for s, want := range map[string][]int{
		"rnbakabnr/9/1c5c1/p1p1p1p1p/9/9/P1P1P1P1P/1C5C1/9/RNBAKABNR w":  {1, 44, 1920, 79666},
		"r1ba1a3/4kn3/2n1b4/pNp1p1p1p/4c4/6P2/P1P2R2P/1CcC5/9/2BAKAB2 w": {1, 38, 1128, 43929},
		"1cbak4/9/n2a5/2p1p3p/5cp2/2n2N3/6PCP/3AB4/2C6/3A1K1N1 w":        {1, 7, 281, 8620},
		"5a3/3k5/3aR4/9/5r3/5n3/9/3A1A3/5K3/2BC2B2 w":                    {1, 25, 424, 9850},
		"CRN1k1b2/3ca4/4ba3/9/2nr5/9/9/4B4/4A4/4KA3 w":                   {1, 28, 516, 14808},
		"R1N1k1b2/9/3aba3/9/2nr5/2B6/9/4B4/4A4/4KA3 w":                   {1, 21, 364, 7626, 162837},
		"C1nNk4/9/9/9/9/9/n1pp5/B3C4/9/3A1K3 w":                          {1, 28, 222, 6241, 64971},
		"4ka3/4a4/9/9/4N4/p8/9/4C3c/7n1/2BK5 w":                          {1, 23, 345, 8124, 149272},
		"2b1ka3/9/b3N4/4n4/9/9/9/4C4/2p6/2BK5 w":                         {1, 21, 195, 3883, 48060},
		"1C2ka3/9/C1Nab1n2/p3p3p/6p2/9/P3P3P/3AB4/3p2c2/c1BAK4 w":        {1, 30, 830, 22787},
		"CnN1k1b2/c3a4/4ba3/9/2nr5/9/9/4C4/4A4/4KA3 w":                   {1, 19, 583, 11714},
	} {
		p := parsed(t, s)
		for depth, n := range want {
			wantCount(t, p, depth, n)
		}
		wantCount(t, turned(p), 2, want[2])
	}
}

func TestLinesOfPositions(t *testing.T) {
	lines, ended := 0, 0
	for i, p := range positions() {
		wantCount(t, p, 0, 1)
		wantSplits(t, p, 1, plainSplits(p, 1))
		if i%3 == 0 {
			want := plainSplits(p, 2)
			wantSplits(t, p, 2, want)
			lines += sum(want)
		}
		if i%50 == 0 {
			wantSplits(t, p, 3, plainSplits(p, 3))
		}
		if len(legal.Moves(p)) == 0 {
			ended++
		}
	}
	if lines < 10000 || ended == 0 {
		t.Errorf("P11.1: too little is seen: %d, %d", lines, ended)
	}
}

func TestExample(t *testing.T) {
	wantCount(t, start, 2, 1920)
	wantSplits(t, start, 2, plainSplits(start, 2))
	l, _ := perft.Splits(start, 1)
	if len(l) != 44 || l[0] != (perft.Split{Move: api.Move{From: 0, To: 9}, Count: 1}) {
		t.Errorf("P11.2: %v", l)
	}
}

func TestDepths(t *testing.T) {
	for _, p := range []api.Position{at("Kkrr", 4, 84, 0, 12), at("Kk", 4, 84), start, turned(start)} {
		for _, depth := range []int{math.MinInt, -1 << 32, -64, -2, -1, 65, 66, 128, 1 << 32, 1<<32 + 1, 1<<32 + 64, math.MaxInt} {
			wantRefused(t, p, depth, api.ErrArg)
		}
		wantCount(t, p, 0, 1)
		wantNoSplits(t, p, 0, api.ErrArg)
		if t.Failed() {
			// From a position with more moves so deep a search would not end.
			return
		}
	}
}

func TestPositionsWithoutMoves(t *testing.T) {
	mate, stale := at("Kkrr", 4, 84, 0, 12), at("Kkr", 4, 86, 12)
	for _, p := range []api.Position{mate, stale, turned(mate), turned(stale)} {
		wantCount(t, p, 0, 1)
		for depth := 1; depth <= 64; depth++ {
			wantSplits(t, p, depth, nil)
		}
	}
}

func TestMovesBehindWhichLinesEnd(t *testing.T) {
	// One move alone mates: with it no line of two moves or more begins, and it is told all the same.
	p := api.Position{Cells: with("Kkrr", 4, 84, 9, 12), Side: 1, Full: 1}
	mates := 0
	for depth := 1; depth <= 3; depth++ {
		want := plainSplits(p, depth)
		wantSplits(t, p, depth, want)
		for _, s := range want {
			if s.Count == 0 {
				mates++
			}
		}
	}
	if l, _ := perft.Splits(p, 2); mates == 0 || !slices.Contains(l, perft.Split{Move: api.Move{From: 9, To: 0}}) {
		t.Errorf("P11.2: %v", l)
	}
}

func TestOneLineThatEnds(t *testing.T) {
	// There is just one move, and none behind it: no line goes on, to the greatest depth.
	p := endsInOne(t)
	first := legal.Moves(p)[0]
	wantSplits(t, p, 1, []perft.Split{{Move: first, Count: 1}})
	for depth := 2; depth <= 64; depth++ {
		wantSplits(t, p, depth, []perft.Split{{Move: first}})
	}
}

// endsInOne is a position with one move, and none behind it.
func endsInOne(t *testing.T) api.Position {
	t.Helper()
	r := random(2862933555777941757)
	for range 200000 {
		cells := with("")
		for _, c := range []byte("KkPPaarR") {
			points := place.Points(c)
			if n := points[r.below(len(points))]; cells[n] == '.' {
				cells = board.Put(cells, n, c)
			}
		}
		p := api.Position{Cells: cells, Full: 1}
		if l := legal.Moves(p); len(l) == 1 {
			if q, _, _ := legal.Make(p, l[0]); legal.End(q) != api.NoReason {
				return p
			}
		}
	}
	t.Fatal("there is none")
	return api.Position{}
}

func TestClockAndFullStopNoLine(t *testing.T) {
	for _, p := range []api.Position{start, at("KkRn", 4, 84, 30, 60)} {
		for side := range 2 {
			p.Side = side
			if check.Well(p) != api.OK {
				continue
			}
			want := plainSplits(p, 2)
			for _, clock := range []int{1, 119, 120} {
				for _, full := range []int{1, 9998, 9999} {
					q := p
					q.Clock, q.Full = clock, full
					wantSplits(t, q, 2, want)
				}
			}
		}
	}
}

// generals is how many lines of so many moves two generals alone have, reckoned from their squares: each goes
// one square in its palace, and never to the other's file.
func generals(depth int) map[api.Position]int {
	counts := map[api.Position]int{}
	for _, n := range place.Points('K') {
		for _, m := range place.Points('k') {
			if n%9 != m%9 {
				counts[at("Kk", n, m)] = 1
				counts[api.Position{Cells: with("Kk", n, m), Side: 1, Full: 1}] = 1
			}
		}
	}
	for range depth {
		more := map[api.Position]int{}
		for p := range counts {
			mover := "Kk"[p.Side]
			from := strings.IndexByte(p.Cells, mover)
			for _, to := range []int{from - 9, from - 1, from + 1, from + 9} {
				if place.May(mover, to) {
					q := api.Position{Cells: board.Put(board.Put(p.Cells, from, '.'), to, mover), Side: 1 - p.Side, Full: 1}
					more[p] += counts[q]
				}
			}
		}
		counts = more
	}
	return counts
}

func TestDeepLines(t *testing.T) {
	seen := 0
	for _, depth := range []int{1, 2, 7, 24, 50, 60} {
		for p, want := range generals(depth) {
			wantCount(t, p, depth, want)
			seen++
		}
	}
	if seen < 500 {
		t.Errorf("P11.1: too little is seen: %d", seen)
	}
	// A chariot besides, so deep that nobody goes through the lines one by one.
	p := at("KkR", 4, 84, 35)
	for _, depth := range []int{8, 12} {
		n, e := perft.Count(p, depth)
		l, e2 := perft.Splits(p, depth)
		if e != api.OK || e2 != api.OK || n != sum(l) || n < 100000 || len(l) != len(legal.Moves(p)) {
			t.Errorf("P11.3: depth %d: %d, %d, %d, %d", depth, n, e, sum(l), e2)
		}
	}
}

func TestGreatestDepthEnds(t *testing.T) {
	for p := range generals(0) {
		l, e := perft.Splits(p, api.MaxDepth)
		if len(l) != len(legal.Moves(p)) || e != api.OK {
			t.Errorf("P11.2: %#v: %v, %d", p, l, e)
		}
		if n, e := perft.Count(p, api.MaxDepth); n != sum(l) || e != api.OK {
			t.Errorf("P11.3: %#v: %d, %d, together %d", p, n, e, sum(l))
		}
	}
}

func TestWrongPositions(t *testing.T) {
	facing, attacked, misplaced := with("Kk", 4, 85), with("KkR", 4, 84, 81), with("KkB", 4, 85, 3)
	for p, want := range map[api.Position]api.Errno{
		{}:                                              api.ErrArg,
		{Cells: api.Start}:                              api.ErrArg,
		{Cells: api.Start, Full: 10000}:                 api.ErrArg,
		{Cells: api.Start, Full: 1, Clock: -1}:          api.ErrArg,
		{Cells: api.Start, Full: 1, Clock: 121}:         api.ErrArg,
		{Cells: api.Start, Full: 1, Side: -1}:           api.ErrArg,
		{Cells: api.Start, Full: 1, Side: 2}:            api.ErrArg,
		{Cells: api.Start[1:], Full: 1}:                 api.ErrArg,
		{Cells: api.Start + ".", Full: 1}:               api.ErrArg,
		{Cells: strings.Repeat("\x00", 90), Full: 1}:    api.ErrArg,
		{Cells: facing, Side: 2, Full: 1}:               api.ErrArg,
		{Cells: with(""), Full: 1}:                      api.ErrCount,
		{Cells: board.Put(misplaced, 5, 'K'), Full: 1}:  api.ErrCount,
		{Cells: misplaced, Full: 1}:                     api.ErrPlace,
		{Cells: facing, Full: 1}:                        api.ErrFacing,
		{Cells: facing, Side: 1, Full: 1}:               api.ErrFacing,
		{Cells: board.Put(facing, 81, 'R'), Full: 1}:    api.ErrFacing,
		{Cells: attacked, Full: 1}:                      api.ErrCheck,
		{Cells: board.Turn(attacked), Side: 1, Full: 1}: api.ErrCheck,
	} {
		// What is wrong with the position goes ahead of what is wrong with the depth.
		for _, depth := range []int{math.MinInt, -1, 0, 1, 2, 64, 65, math.MaxInt} {
			wantRefused(t, p, depth, want)
		}
	}
	// Where the side that is attacked is to move, it is right.
	p := api.Position{Cells: attacked, Side: 1, Full: 1}
	wantSplits(t, p, 2, plainSplits(p, 2))
}

func TestTheSameAgain(t *testing.T) {
	l, _ := perft.Splits(start, 2)
	l[0] = perft.Split{Move: api.Move{From: 1, To: 2}, Count: -1}
	for range 2 {
		wantSplits(t, start, 2, plainSplits(start, 2))
	}
}
