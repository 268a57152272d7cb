package game_test

import (
	"math"
	"slices"
	"strings"
	"testing"

	"riverbank/api"
	"riverbank/board"
	"riverbank/check"
	"riverbank/game"
	"riverbank/legal"
	"riverbank/place"
)

var start = api.Position{Cells: api.Start, Full: 1}

// opening takes cannons and horses, and what took is taken again.
var opening = []api.Move{{From: 19, To: 82}, {From: 81, To: 82}, {From: 25, To: 88}, {From: 89, To: 88}, {From: 0, To: 9}, {From: 64, To: 10}, {From: 9, To: 10}}

// with is an empty board on which these pieces stand, each on its square.
func with(pieces string, squares ...int) string {
	cells := []byte(strings.Repeat(".", 90))
	for i, n := range squares {
		cells[n] = pieces[i]
	}
	return string(cells)
}

// turned is a position from the other side.
func turned(p api.Position) api.Position {
	return api.Position{Cells: board.Turn(p.Cells), Side: 1 - p.Side, Clock: p.Clock, Full: p.Full}
}

// random is a row of numbers that is the same each time.
type random uint64

// below is its next one, from 0 on.
func (r *random) below(n int) int {
	*r ^= *r << 13
	*r ^= *r >> 7
	*r ^= *r << 17
	return int(*r % random(n))
}

// positions are scattered ones that are right, whosever move it is.
func positions() []api.Position {
	l := []api.Position{start, {Cells: api.Start, Side: 1, Clock: 120, Full: 9999}}
	r := random(88172645463325252)
	for i := range 200 {
		cells := with("")
		for _, c := range []byte("KkAaAaBbBbNNnnRRrrCCccPPPPPppppp") {
			points := place.Points(c)
			n := points[r.below(len(points))]
			if cells[n] == '.' && (c == 'K' || c == 'k' || r.below(8) > i%8) {
				cells = board.Put(cells, n, c)
			}
		}
		p := api.Position{Cells: cells, Side: r.below(2), Clock: r.below(121), Full: 1 + r.below(9999)}
		if check.Well(p) == api.OK {
			l = append(l, p)
		}
	}
	return l
}

// record is what a game must tell, kept in the plainest way: all positions, and the moves between them.
type record struct {
	positions []api.Position
	moves     []api.Move
}

func begun(p api.Position) record { return record{positions: []api.Position{p}} }

func (r record) now() api.Position { return r.positions[len(r.moves)] }

// on is the record one move on, back the one without the last move. Each has lists of its own.
func (r record) on(m api.Move) record {
	q, _, _ := legal.Make(r.now(), m)
	return record{positions: append(slices.Clone(r.positions), q), moves: append(slices.Clone(r.moves), m)}
}

func (r record) back() record {
	last := len(r.moves) - 1
	return record{positions: slices.Clone(r.positions[:last+1]), moves: slices.Clone(r.moves[:last])}
}

// plainPieces are the squares of a side's pieces, told letter by letter.
func plainPieces(cells string, side int) []int {
	var l []int
	for n := range len(cells) {
		if side == 0 && cells[n] >= 'A' && cells[n] <= 'Z' || side == 1 && cells[n] >= 'a' && cells[n] <= 'z' {
			l = append(l, n)
		}
	}
	return l
}

// nobody are numbers that are no sides.
func nobody() []int {
	return []int{math.MinInt, math.MinInt + 1, -1 << 32, -2, -1, 2, 3, 256, 1 << 32, 1<<32 + 1, math.MaxInt}
}

// wantGame holds all that a game tells against a record.
func wantGame(t *testing.T, g *game.Game, want record) {
	t.Helper()
	if p := g.Position(); p != want.now() {
		t.Errorf("P9.2: the position behind %v: got %#v, want %#v", want.moves, p, want.now())
	}
	if g.Plies() != len(want.moves) || !slices.Equal(g.Past(), want.moves) {
		t.Errorf("P9.3: %d plies, %v, want %v", g.Plies(), g.Past(), want.moves)
	}
	for side := range 2 {
		if l := g.Pieces(side); !slices.Equal(l, plainPieces(want.now().Cells, side)) {
			t.Errorf("P9.3: %#v: pieces of %d: %v", want.now(), side, l)
		}
	}
}

func newGame(t *testing.T, p api.Position) *game.Game {
	t.Helper()
	g, e := game.New(p)
	if g == nil || e != api.OK {
		t.Fatalf("P9.1: %#v: %d", p, e)
	}
	return g
}

func wantError(t *testing.T, promise string, got api.Errno, want api.Errno) {
	t.Helper()
	if got != want {
		t.Errorf("%s: got %d, want %d", promise, got, want)
	}
}

// play makes moves that may be made, and tells the record behind them.
func play(t *testing.T, g *game.Game, r record, moves ...api.Move) record {
	t.Helper()
	for _, m := range moves {
		if e := g.Make(m); e != api.OK {
			t.Fatalf("P9.2: %v at %#v: %d", m, r.now(), e)
		}
		r = r.on(m)
	}
	return r
}

func TestNew(t *testing.T) {
	for _, p := range positions() {
		wantGame(t, newGame(t, p), begun(p))
	}
}

func TestNewOfWrongPositions(t *testing.T) {
	facing, attacked, misplaced := with("Kk", 4, 85), with("KkR", 4, 84, 81), with("KkB", 4, 85, 3)
	for p, want := range map[api.Position]api.Errno{
		{}:                                              api.ErrArg,
		{Cells: api.Start}:                              api.ErrArg,
		{Cells: api.Start, Full: -1}:                    api.ErrArg,
		{Cells: api.Start, Full: 10000}:                 api.ErrArg,
		{Cells: api.Start, Full: 1, Clock: -1}:          api.ErrArg,
		{Cells: api.Start, Full: 1, Clock: 121}:         api.ErrArg,
		{Cells: api.Start, Full: 1, Side: -1}:           api.ErrArg,
		{Cells: api.Start, Full: 1, Side: 2}:            api.ErrArg,
		{Cells: api.Start[1:], Full: 1}:                 api.ErrArg,
		{Cells: api.Start + ".", Full: 1}:               api.ErrArg,
		{Cells: strings.Repeat("\x00", 90), Full: 1}:    api.ErrArg,
		{Cells: facing, Side: 2, Full: 1}:               api.ErrArg,
		{Cells: with(""), Full: 1}:                      api.ErrCount,
		{Cells: board.Put(misplaced, 5, 'K'), Full: 1}:  api.ErrCount,
		{Cells: misplaced, Full: 1}:                     api.ErrPlace,
		{Cells: facing, Full: 1}:                        api.ErrFacing,
		{Cells: facing, Side: 1, Full: 1}:               api.ErrFacing,
		{Cells: board.Put(facing, 81, 'R'), Full: 1}:    api.ErrFacing,
		{Cells: attacked, Full: 1}:                      api.ErrCheck,
		{Cells: board.Turn(attacked), Side: 1, Full: 1}: api.ErrCheck,
	} {
		g, e := game.New(p)
		if g != nil {
			t.Errorf("P9.1: %#v: a game", p)
		}
		wantError(t, "P9.1", e, want)
		wantError(t, "P9.1: check.Well", e, check.Well(p))
	}
	// Where the side that is attacked is to move, it is right.
	newGame(t, api.Position{Cells: attacked, Side: 1, Full: 1})
}

func TestNil(t *testing.T) {
	var g *game.Game
	wantError(t, "P9.1: Make of nil", g.Make(api.Move{From: 27, To: 36}), api.ErrArg)
	wantError(t, "P9.1: Make of nil", g.Make(api.Move{From: -1, To: 90}), api.ErrArg)
	wantError(t, "P9.1: Unmake of nil", g.Unmake(), api.ErrArg)
	if g.Position() != (api.Position{}) || g.Plies() != 0 || len(g.Past()) != 0 || g.Copy() != nil {
		t.Errorf("P9.1: nil: %#v, %d, %v, %v", g.Position(), g.Plies(), g.Past(), g.Copy())
	}
	for _, side := range append(nobody(), 0, 1) {
		if l := g.Pieces(side); len(l) != 0 {
			t.Errorf("P9.1: pieces of nil: %v", l)
		}
	}
}

func TestGameThatNobodyBegan(t *testing.T) {
	g := &game.Game{}
	wantError(t, "P9.2", g.Make(api.Move{From: 27, To: 36}), api.ErrMove)
	wantError(t, "P9.2", g.Unmake(), api.ErrEnd)
	for _, h := range []*game.Game{g, g.Copy()} {
		if h.Position() != (api.Position{}) || h.Plies() != 0 || len(h.Past()) != 0 || len(h.Pieces(0)) != 0 {
			t.Errorf("R1: %#v", h)
		}
	}
}

func TestExample(t *testing.T) {
	g := newGame(t, start)
	wantError(t, "P9.2", g.Make(api.Move{From: 19, To: 82}), api.OK)
	if p := g.Position(); p.Cells[82] != 'C' || p.Cells[19] != '.' || p.Side != 1 {
		t.Errorf("P9.2: %#v", p)
	}
	wantError(t, "P9.2", g.Unmake(), api.OK)
	wantGame(t, g, begun(start))
}

func TestMakeOfAllMoves(t *testing.T) {
	made := 0
	for _, p := range positions()[:12] {
		g := newGame(t, p)
		for from := -1; from <= 90; from++ {
			for to := -1; to <= 90; to++ {
				m := api.Move{From: from, To: to}
				if legal.Is(p, m) {
					made++
					wantGame(t, g, play(t, g, begun(p), m))
					wantError(t, "P9.2", g.Unmake(), api.OK)
				} else if e := g.Make(m); e != api.ErrMove {
					t.Errorf("P9.2: %#v, %v: %d", p, m, e)
				}
			}
		}
		wantGame(t, g, begun(p))
	}
	if made < 100 {
		t.Errorf("P9.2: too little is seen: %d", made)
	}
}

func TestMovesThatMayNotBeMade(t *testing.T) {
	g := newGame(t, start)
	want := play(t, g, begun(start), opening[:3]...)
	for _, m := range []api.Move{
		{From: 40, To: 49}, // nothing stands there
		{From: 27, To: 36}, // it is not red's move
		{From: 83, To: 84}, // a piece of its own side
		{From: 83, To: 65}, // an elephant goes aslant
		{From: 54, To: 54}, // to where it stands
		{From: -1, To: 5},
		{From: 54, To: -1},
		{From: 90, To: 54},
		{From: 54, To: 90},
		{From: 1 << 32, To: 45},
		{From: 1<<32 + 54, To: 45},
		{From: 54, To: 1<<32 + 45},
		{From: math.MinInt, To: math.MaxInt},
		{},
	} {
		wantError(t, "P9.2", g.Make(m), api.ErrMove)
		wantGame(t, g, want)
	}
}

func TestGeneralIsNotLeftWhereItIsTaken(t *testing.T) {
	// What stands between a chariot and the general, or between the generals, stays there.
	for _, c := range []struct {
		cells   string
		allowed []int
	}{
		{with("KNrk", 4, 13, 31, 84), nil},
		{with("KRrk", 4, 13, 31, 84), []int{22, 31}},
		{with("KCk", 4, 67, 85), []int{13, 22, 31, 40, 49, 58, 76}},
	} {
		p := api.Position{Cells: c.cells, Full: 1}
		from := strings.IndexAny(c.cells, "NRC")
		for to := range 90 {
			g, want := newGame(t, p), api.ErrMove
			if slices.Contains(c.allowed, to) {
				want = api.OK
			}
			wantError(t, "P9.2", g.Make(api.Move{From: from, To: to}), want)
		}
	}
}

func TestNoMoveFromTheEnd(t *testing.T) {
	// The last move mates: nothing may be made behind it, but it is taken back.
	p := api.Position{Cells: with("Kkrr", 4, 84, 9, 12), Side: 1, Clock: 9, Full: 40}
	g := newGame(t, p)
	want := play(t, g, begun(p), api.Move{From: 9, To: 0})
	if legal.End(g.Position()) != api.Mate {
		t.Fatalf("no mate: %#v", g.Position())
	}
	for to := range 90 {
		wantError(t, "P9.2", g.Make(api.Move{From: 4, To: to}), api.ErrMove)
	}
	wantGame(t, g, want)
	wantError(t, "P9.2", g.Unmake(), api.OK)
	wantGame(t, g, begun(p))
}

func TestUnmakeOfNothing(t *testing.T) {
	for _, p := range positions()[:20] {
		g := newGame(t, p)
		for range 3 {
			wantError(t, "P9.2", g.Unmake(), api.ErrEnd)
			wantGame(t, g, begun(p))
		}
	}
	g := newGame(t, start)
	play(t, g, begun(start), opening...)
	for range opening {
		wantError(t, "P9.2", g.Unmake(), api.OK)
	}
	wantError(t, "P9.2", g.Unmake(), api.ErrEnd)
	wantGame(t, g, begun(start))
	// And it is played on as if nothing had been.
	wantGame(t, g, play(t, g, begun(start), opening...))
}

func TestCapturesAreTakenBack(t *testing.T) {
	for _, p := range []api.Position{start, {Cells: api.Start, Clock: 77, Full: 500}, {Cells: api.Start, Clock: 120, Full: 9999}} {
		for _, side := range []func(api.Position, api.Move) (api.Position, api.Move){
			func(p api.Position, m api.Move) (api.Position, api.Move) { return p, m },
			func(p api.Position, m api.Move) (api.Position, api.Move) {
				return turned(p), api.Move{From: 89 - m.From, To: 89 - m.To}
			},
		} {
			q, _ := side(p, api.Move{})
			g, want := newGame(t, q), begun(q)
			for _, m := range opening {
				_, m = side(p, m)
				want = play(t, g, want, m)
				wantGame(t, g, want)
			}
			for range opening {
				want = want.back()
				wantError(t, "P9.2", g.Unmake(), api.OK)
				wantGame(t, g, want)
			}
		}
	}
}

func TestEachKindIsTakenBack(t *testing.T) {
	for taken, n := range map[byte]int{'a': 66, 'b': 67, 'n': 67, 'r': 67, 'c': 67, 'p': 58} {
		p := api.Position{Cells: board.Put(with("KkR", 4, 84, n+4), n, taken), Clock: 50, Full: 30}
		g := newGame(t, p)
		wantGame(t, g, play(t, g, begun(p), api.Move{From: n + 4, To: n}))
		if q := g.Position(); q.Cells[n] != 'R' || q.Clock != 0 || len(g.Pieces(1)) != 1 {
			t.Errorf("P9.2: %c: %#v", taken, q)
		}
		wantError(t, "P9.2", g.Unmake(), api.OK)
		wantGame(t, g, begun(p))
	}
}

func TestClockAndFull(t *testing.T) {
	quiet, capture := api.Move{From: 27, To: 36}, api.Move{From: 19, To: 82}
	for _, c := range []struct {
		side, clock, full       int
		m                       api.Move
		clockBehind, fullBehind int
	}{
		{0, 0, 1, quiet, 1, 1},
		{0, 0, 1, capture, 0, 1},
		{1, 0, 1, quiet, 1, 2},
		{1, 0, 1, capture, 0, 2},
		{0, 118, 9998, quiet, 119, 9998},
		{1, 118, 9998, quiet, 119, 9999},
		{0, 119, 9999, quiet, 120, 9999},
		{1, 119, 9999, quiet, 120, 9999},
		{0, 120, 9999, quiet, 120, 9999},
		{1, 120, 9999, quiet, 120, 9999},
		{0, 120, 9999, capture, 0, 9999},
		{1, 120, 9999, capture, 0, 9999},
		{1, 120, 9998, capture, 0, 9999},
	} {
		p := api.Position{Cells: api.Start, Side: c.side, Clock: c.clock, Full: c.full}
		m := c.m
		if c.side == 1 {
			m = api.Move{From: 89 - m.From, To: 89 - m.To}
		}
		g := newGame(t, p)
		wantError(t, "P9.2", g.Make(m), api.OK)
		if q := g.Position(); q.Clock != c.clockBehind || q.Full != c.fullBehind || q.Side != 1-c.side {
			t.Errorf("P9.2: %v: %#v", c, q)
		}
		wantError(t, "P9.2", g.Unmake(), api.OK)
		wantGame(t, g, begun(p))
	}
}

func TestClockAndFullThatStopAreTakenBack(t *testing.T) {
	p := api.Position{Cells: api.Start, Side: 1, Clock: 117, Full: 9997}
	g := newGame(t, p)
	want := begun(p)
	for i := range 12 {
		want = play(t, g, want, shuttle(1, i))
		wantGame(t, g, want)
	}
	if q := g.Position(); q.Clock != 120 || q.Full != 9999 {
		t.Errorf("P9.2: %#v", q)
	}
	for range 12 {
		want = want.back()
		wantError(t, "P9.2", g.Unmake(), api.OK)
		wantGame(t, g, want)
	}
}

// shuttle is move i of a game from the start in which both sides' chariots go to and fro, the side given first.
func shuttle(side int, i int) api.Move {
	m := api.Move{From: 0, To: 9}
	if (i+side)%2 == 1 {
		m = api.Move{From: 89, To: 80}
	}
	if i/2%2 == 1 {
		m = api.Move{From: m.To, To: m.From}
	}
	return m
}

func TestMostPlies(t *testing.T) {
	g := newGame(t, start)
	var moves []api.Move
	var all []api.Position
	for i := range api.MaxPlies {
		moves, all = append(moves, shuttle(0, i)), append(all, g.Position())
		if e := g.Make(moves[i]); e != api.OK || g.Plies() != i+1 {
			t.Fatalf("P9.2: ply %d: %d", i+1, e)
		}
	}
	full := record{positions: append(all, start), moves: moves}
	full.positions[api.MaxPlies] = api.Position{Cells: api.Start, Clock: 120, Full: 513}
	next, wrong := shuttle(0, api.MaxPlies), api.Move{From: -1, To: 90}
	for range 2 {
		wantGame(t, g, full)
		wantError(t, "P9.2", g.Make(next), api.ErrFull)
		wantError(t, "P9.2: ErrFull goes ahead of ErrMove", g.Make(wrong), api.ErrFull)
		wantGame(t, g, full)

		h := g.Copy()
		wantError(t, "P9.2: of a copy", h.Make(next), api.ErrFull)
		wantError(t, "P9.2: of a copy", h.Unmake(), api.OK)

		wantError(t, "P9.2", g.Unmake(), api.OK)
		wantGame(t, g, full.back())
		wantError(t, "P9.2", g.Make(wrong), api.ErrMove)
		wantError(t, "P9.2", g.Make(moves[api.MaxPlies-1]), api.OK)
	}
	for i := api.MaxPlies - 1; i >= 0; i-- {
		if e := g.Unmake(); e != api.OK || g.Position() != all[i] || g.Plies() != i {
			t.Fatalf("P9.2: back to ply %d: %d, %#v", i, e, g.Position())
		}
	}
	wantError(t, "P9.2", g.Unmake(), api.ErrEnd)
}

func TestPastAndPieces(t *testing.T) {
	g := newGame(t, start)
	play(t, g, begun(start), opening...)
	if !slices.Equal(g.Past(), opening) || g.Plies() != 7 {
		t.Errorf("P9.3: %d, %v", g.Plies(), g.Past())
	}
	if l := g.Pieces(0); !slices.Equal(l, []int{1, 2, 3, 4, 5, 6, 7, 8, 10, 27, 29, 31, 33, 35}) {
		t.Errorf("P9.3: red's: %v", l)
	}
	if l := g.Pieces(1); !slices.Equal(l, []int{54, 56, 58, 60, 62, 70, 82, 83, 84, 85, 86, 87, 88}) {
		t.Errorf("P9.3: black's: %v", l)
	}
	for _, side := range nobody() {
		if l := g.Pieces(side); len(l) != 0 {
			t.Errorf("P9.3: of side %d: %v", side, l)
		}
	}
}

func TestCopyIsPlayedOnByItself(t *testing.T) {
	for taken := range len(opening) + 1 {
		// From each length on; where moves were taken back there is room that two games could share.
		g := newGame(t, start)
		want := play(t, g, begun(start), opening...)
		for range taken {
			wantError(t, "P9.2", g.Unmake(), api.OK)
			want = want.back()
		}
		h := g.Copy()
		wantGame(t, h, want)

		l := legal.Moves(want.now())
		one, two := l[0], l[len(l)-1]
		wantG := play(t, g, want, one)
		wantGame(t, h, want)
		wantH := play(t, h, want, two)
		wantGame(t, g, wantG)
		wantGame(t, h, wantH)

		for len(wantG.moves) > 0 {
			wantError(t, "P9.3", g.Unmake(), api.OK)
			wantG = wantG.back()
		}
		wantG = play(t, g, wantG, api.Move{From: 27, To: 36})
		wantGame(t, g, wantG)
		wantGame(t, h, wantH)
		for len(wantH.moves) > 0 {
			wantError(t, "P9.3", h.Unmake(), api.OK)
			wantH = wantH.back()
			wantGame(t, h, wantH)
		}
		wantError(t, "P9.3", h.Unmake(), api.ErrEnd)
		wantGame(t, g, wantG)
	}
}

func TestOneStaysWhileTheOtherIsPlayedOn(t *testing.T) {
	for copied := range 2 {
		games := [2]*game.Game{newGame(t, start), nil}
		want := play(t, games[0], begun(start), opening[:4]...)
		games[1] = games[0].Copy()
		on, stays := games[copied], games[1-copied]
		moved := want
		for i := range 20 {
			moved = play(t, on, moved, legal.Moves(moved.now())[i%3])
			wantGame(t, stays, want)
		}
		for range 24 {
			wantError(t, "P9.3", on.Unmake(), api.OK)
			wantGame(t, stays, want)
		}
		wantGame(t, on, begun(start))
		for range 4 {
			wantError(t, "P9.3", stays.Unmake(), api.OK)
			want = want.back()
			wantGame(t, stays, want)
		}
	}
}

func TestListsAreNew(t *testing.T) {
	g := newGame(t, start)
	want := play(t, g, begun(start), opening[:5]...)
	past, red, black := g.Past(), g.Pieces(0), g.Pieces(1)
	for i := range past {
		past[i] = api.Move{From: 1, To: 2}
	}
	for _, l := range [][]int{red, black} {
		for i := range l {
			l[i] = 50
		}
	}
	wantGame(t, g, want)
	_ = append(g.Past()[:2], api.Move{From: 7, To: 7})
	wantGame(t, g, want)

	// What was told stays, when the game is played on.
	past, red = g.Past(), g.Pieces(0)
	wantError(t, "P9.2", g.Unmake(), api.OK)
	play(t, g, want.back(), api.Move{From: 8, To: 17})
	if !slices.Equal(past, want.moves) || !slices.Equal(red, plainPieces(want.now().Cells, 0)) {
		t.Errorf("R5: %v, %v", past, red)
	}
}

func TestGamesAreNew(t *testing.T) {
	g, h := newGame(t, start), newGame(t, start)
	want := play(t, g, begun(start), opening...)
	wantGame(t, h, begun(start))
	wantError(t, "P9.2", h.Unmake(), api.ErrEnd)
	wantGame(t, g, want)
}

func TestToAndFro(t *testing.T) {
	// Games of any moves, on and back at random; now and then one goes on with its copy.
	r := random(1442695040888963407)
	backs, captures := 0, 0
	for _, p := range positions()[:40] {
		g, want := newGame(t, p), begun(p)
		for range 60 {
			l := legal.Moves(want.now())
			switch {
			case len(l) > 0 && (len(want.moves) == 0 || r.below(3) > 0):
				m := l[r.below(len(l))]
				if taking := legal.Captures(want.now()); len(taking) > 0 && r.below(2) == 0 {
					m = taking[r.below(len(taking))]
					captures++
				}
				want = play(t, g, want, m)
			case len(want.moves) > 0:
				backs++
				want = want.back()
				wantError(t, "P9.4", g.Unmake(), api.OK)
			}
			wantGame(t, g, want)
			if r.below(10) == 0 {
				g = g.Copy()
			}
		}
		for len(want.moves) > 0 {
			want = want.back()
			wantError(t, "P9.4", g.Unmake(), api.OK)
			wantGame(t, g, want)
		}
		wantGame(t, g, begun(p))
	}
	if backs < 300 || captures < 200 {
		t.Errorf("P9.4: too little is seen: %d, %d", backs, captures)
	}
}

func TestFromTheOtherSide(t *testing.T) {
	r := random(88172645463325252)
	for _, p := range positions()[:20] {
		g, h := newGame(t, p), newGame(t, turned(p))
		for range 20 {
			l := legal.Moves(g.Position())
			if len(l) == 0 {
				break
			}
			m := l[r.below(len(l))]
			wantError(t, "P9.2", g.Make(m), api.OK)
			wantError(t, "P7", h.Make(api.Move{From: 89 - m.From, To: 89 - m.To}), api.OK)
			// Full goes on behind black's move, whoever began.
			p, q := turned(g.Position()), h.Position()
			if p.Cells != q.Cells || p.Side != q.Side || p.Clock != q.Clock || g.Plies() != h.Plies() {
				t.Fatalf("P7: %#v, turned %#v", p, q)
			}
		}
	}
}
