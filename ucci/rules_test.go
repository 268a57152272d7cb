// The promises of the whole, P1 to P7, are told here and in moves_test, ends_test, best_test and sides_test, by plain rules of
// the game that these tests have of their own.

package ucci_test

import (
	"math"
	"strings"

	"riverbank/api"
	"riverbank/check"
	"riverbank/place"
)

var (
	start = api.Position{Cells: api.Start, Full: 1}
	goes  = api.Verdict{}
)

// with is an empty board on which these pieces stand, each on its square.
func with(pieces string, squares ...int) string {
	cells := []byte(strings.Repeat(".", api.Squares))
	for i, n := range squares {
		cells[n] = pieces[i]
	}
	return string(cells)
}

// red is a position of such a board, in which it is red's move.
func red(pieces string, squares ...int) api.Position {
	return api.Position{Cells: with(pieces, squares...), Full: 1}
}

// at is a position at a clock.
func at(p api.Position, clock int) api.Position {
	p.Clock = clock
	return p
}

func move(from int, to int) api.Move { return api.Move{From: from, To: to} }

// moves are several, each one's From and To.
func moves(squares ...int) []api.Move {
	var l []api.Move
	for i := 0; i < len(squares); i += 2 {
		l = append(l, move(squares[i], squares[i+1]))
	}
	return l
}

// random is a row of numbers that is the same each time.
type random uint64

// below is its next one, from 0 on.
func (r *random) below(n int) int {
	*r ^= *r << 13
	*r ^= *r >> 7
	*r ^= *r << 17
	return int(*r % random(n))
}

// strewn is a position, right or not: the generals and some of these pieces, each on a square where it may stand.
func strewn(r *random, pieces string) api.Position {
	cells := []byte(with(""))
	for i, c := range []byte("Kk" + pieces) {
		points := place.Points(c)
		if on := points[r.below(len(points))]; cells[on] == '.' && (i < 2 || r.below(5) > 0) {
			cells[on] = c
		}
	}
	return api.Position{Cells: string(cells), Side: r.below(2), Full: 1 + r.below(9999)}
}

// scattered are such positions that are right, at a clock that is one of clocks.
func scattered(n int, pieces string, clocks ...int) []api.Position {
	var l []api.Position
	r := random(88172645463325252)
	for len(l) < n {
		p := at(strewn(&r, pieces), clocks[r.below(len(clocks))])
		if check.Well(p) == api.OK {
			l = append(l, p)
		}
	}
	return l
}

// walk are the positions of games that are played anyhow from the start, as plain rules have it.
func walk(games int, plies int) []api.Position {
	var l []api.Position
	r := random(2862933555777941757)
	for range games {
		p := start
		for range plies {
			l = append(l, p)
			may := plainMoves(p)
			if len(may) == 0 {
				break
			}
			p = plainBehind(p, may[r.below(len(may))])
		}
	}
	return l
}

// many are right positions of many kinds.
func many() []api.Position {
	l := walk(8, 120)
	for _, pieces := range []string{"", "R", "n", "Cp", "RCNrcnPp", "AaBbPPpp", "RRCCNNrrccnn", "AABBaabbRCr", "PPPPPppppp", "AABBNNRRCCPPPPPaabbnnrrccppppp"} {
		l = append(l, scattered(60, pieces, 0, 1, 60, 118, 119, 120)...)
	}
	return append(l, start, red("KkRRp", 4, 84, 17, 72, 45), red("Kkrr", 4, 84, 12, 0), red("Kkr", 4, 86, 12))
}

func turnedCells(cells string) string {
	var b []byte
	for n := 89; n >= 0; n-- {
		c := cells[n]
		if c != '.' {
			c ^= 'a' - 'A'
		}
		b = append(b, c)
	}
	return string(b)
}

func turned(p api.Position) api.Position {
	p.Cells, p.Side = turnedCells(p.Cells), 1-p.Side
	return p
}

func turnedMoves(l []api.Move) []api.Move {
	var there []api.Move
	for _, m := range l {
		there = append(there, move(89-m.From, 89-m.To))
	}
	return there
}

// sideOf is whose piece it is; -1: none.
func sideOf(c byte) int {
	switch {
	case c == '.':
		return -1
	case c >= 'a':
		return 1
	}
	return 0
}

// on is what stands so many files and ranks from the left and from red's side; 0: that is off the board.
func on(cells string, file int, rank int) byte {
	if file < 0 || file > 8 || rank < 0 || rank > 9 {
		return 0
	}
	return cells[9*rank+file]
}

// step is a way from a square, by files and ranks.
type step struct{ file, rank int }

var (
	straight = []step{{1, 0}, {-1, 0}, {0, 1}, {0, -1}}
	slanting = []step{{1, 1}, {1, -1}, {-1, 1}, {-1, -1}}
)

// goals are the squares that the piece on a square goes to, as the rules have it: by walking from there.
func goals(cells string, n int) map[int]bool {
	l := map[int]bool{}
	file, rank, c := n%9, n/9, cells[n]
	side := sideOf(c)
	add := func(f int, r int) {
		if x := on(cells, f, r); x != 0 && sideOf(x) != side {
			l[9*r+f] = true
		}
	}
	home := rank // counted from its own side
	if side == 1 {
		home = 9 - rank
	}
	switch c | 0x20 {
	case 'k':
		for _, s := range straight {
			if inPalace(file+s.file, home+s.rank) {
				add(file+s.file, from(side, home+s.rank))
			}
		}
	case 'a':
		for _, s := range slanting {
			if inPalace(file+s.file, home+s.rank) {
				add(file+s.file, from(side, home+s.rank))
			}
		}
	case 'b':
		for _, s := range slanting {
			if to := home + 2*s.rank; to <= 4 && on(cells, file+s.file, from(side, home+s.rank)) == '.' {
				add(file+2*s.file, from(side, to))
			}
		}
	case 'n':
		for _, s := range straight {
			if on(cells, file+s.file, rank+s.rank) == '.' {
				add(file+2*s.file+s.rank, rank+2*s.rank+s.file)
				add(file+2*s.file-s.rank, rank+2*s.rank-s.file)
			}
		}
	case 'r', 'c':
		for _, s := range straight {
			ride(cells, file, rank, s, c|0x20 == 'c', add)
		}
	case 'p':
		add(file, from(side, home+1))
		if home >= 5 {
			add(file-1, rank)
			add(file+1, rank)
		}
	}
	return l
}

// ride goes along a line; a cannon takes behind the first piece that it comes to.
func ride(cells string, file int, rank int, s step, cannon bool, add func(int, int)) {
	f, r := file+s.file, rank+s.rank
	for ; on(cells, f, r) == '.'; f, r = f+s.file, r+s.rank {
		add(f, r)
	}
	if cannon {
		for f, r = f+s.file, r+s.rank; on(cells, f, r) == '.'; f, r = f+s.file, r+s.rank {
		}
	}
	add(f, r)
}

// from is the rank that a side counts as this one.
func from(side int, home int) int {
	if side == 1 {
		return 9 - home
	}
	return home
}

func inPalace(file int, home int) bool {
	return file >= 3 && file <= 5 && home >= 0 && home <= 2
}

// attacked tells whether a side's general is taken by something, or faces the other one.
func attacked(cells string, side int) bool {
	general := strings.IndexByte(cells, "Kk"[side])
	for n := range 90 {
		if sideOf(cells[n]) == 1-side && goals(cells, n)[general] {
			return true
		}
	}
	return facing(cells)
}

func facing(cells string) bool {
	a, b := strings.IndexByte(cells, 'K'), strings.IndexByte(cells, 'k')
	for n := a + 9; n < 90; n += 9 {
		if n == b || cells[n] != '.' {
			return n == b
		}
	}
	return false
}

// plainMoves are those that may be made, by From, then by To.
func plainMoves(p api.Position) []api.Move {
	var l []api.Move
	for n := range 90 {
		if sideOf(p.Cells[n]) != p.Side {
			continue
		}
		there := goals(p.Cells, n)
		for to := range 90 {
			if m := move(n, to); there[to] && !attacked(plainBehind(p, m).Cells, p.Side) {
				l = append(l, m)
			}
		}
	}
	return l
}

// plainBehind is the position behind a move.
func plainBehind(p api.Position, m api.Move) api.Position {
	cells := []byte(p.Cells)
	p.Clock = min(p.Clock+1, 120)
	if cells[m.To] != '.' {
		p.Clock = 0
	}
	cells[m.From], cells[m.To] = '.', cells[m.From]
	if p.Side == 1 {
		p.Full = min(p.Full+1, 9999)
	}
	p.Cells, p.Side = string(cells), 1-p.Side
	return p
}

// plainValue is what a position is worth to the side whose move it is.
func plainValue(p api.Position) int {
	sum := 0
	for n := range 90 {
		c := p.Cells[n]
		switch sideOf(c) {
		case p.Side:
			sum += plainPiece(c, n)
		case 1 - p.Side:
			sum -= plainPiece(c, n)
		}
	}
	return sum
}

func plainPiece(c byte, n int) int {
	home, aside := from(sideOf(c), n/9), n%9-4
	aside = max(aside, -aside)
	switch c | 0x20 {
	case 'a', 'b':
		return 40
	case 'n':
		return 90 + home + 4 - aside
	case 'c':
		return 95 + home + 4 - aside
	case 'r':
		return 200 + home + 4 - aside
	case 'p':
		switch {
		case home >= 5 && aside <= 1:
			return 80
		case home >= 5:
			return 70
		}
		return 30
	}
	return 0
}

// plainQuiet is what a position is worth when all captures are done.
func plainQuiet(p api.Position) int {
	may := plainMoves(p)
	if len(may) == 0 {
		return -10000
	}
	best := plainValue(p)
	for _, m := range may {
		if p.Cells[m.To] != '.' {
			best = max(best, -plainQuiet(plainBehind(p, m)))
		}
	}
	return best
}

// plainWorth is what a position is worth, looked at so deep, so many plies behind the first one.
func plainWorth(p api.Position, depth int, plies int) int {
	may := plainMoves(p)
	switch {
	case len(may) == 0:
		return -10000 + plies
	case p.Clock == 120 && plies > 0:
		return 0
	case depth == 0:
		return plainQuiet(p)
	}
	best := math.MinInt
	for _, m := range may {
		best = max(best, -plainWorth(plainBehind(p, m), depth-1, plies+1))
	}
	return best
}
