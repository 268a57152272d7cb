package wxf_test

import (
	"math"
	"slices"
	"strconv"
	"strings"
	"testing"

	"riverbank/api"
	"riverbank/board"
	"riverbank/check"
	"riverbank/legal"
	"riverbank/place"
	"riverbank/wxf"
)

const letters = "KABNRCPkabnrcp"

var start = api.Position{Cells: api.Start, Full: 1}

// with is an empty board on which these pieces stand, each on its square.
func with(pieces string, squares ...int) string {
	cells := []byte(strings.Repeat(".", 90))
	for i, n := range squares {
		cells[n] = pieces[i]
	}
	return string(cells)
}

// at is a position with red's move, and its general on 3, black's on 85.
func at(pieces string, squares ...int) api.Position {
	return api.Position{Cells: with("Kk"+pieces, append([]int{3, 85}, squares...)...), Full: 1}
}

// turned is a position from the other side, turnedMove a move.
func turned(p api.Position) api.Position {
	return api.Position{Cells: board.Turn(p.Cells), Side: 1 - p.Side, Clock: p.Clock, Full: p.Full}
}

func turnedMove(m api.Move) api.Move { return api.Move{From: 89 - m.From, To: 89 - m.To} }

// random is a row of numbers that is the same each time.
type random uint64

// below is its next one, from 0 on.
func (r *random) below(n int) int {
	*r ^= *r << 13
	*r ^= *r >> 7
	*r ^= *r << 17
	return int(*r % random(n))
}

// scattered are right positions, in which most pieces stand on two files, so that there are tandems of all kinds.
func scattered() []api.Position {
	var l []api.Position
	r := random(88172645463325252)
	for len(l) < 400 {
		cells, files := with(""), [2]int{r.below(9), r.below(9)}
		for _, c := range []byte("KkPPPPPpppppAaAaBbBbNNnnRRrrCCcc") {
			points := place.Points(c)
			n := points[r.below(len(points))]
			for again := r.below(20); again > 0 && !slices.Contains(files[:], n%9); again-- {
				n = points[r.below(len(points))]
			}
			if cells[n] == '.' && (c == 'K' || c == 'k' || r.below(5) > 0) {
				cells = board.Put(cells, n, c)
			}
		}
		p := api.Position{Cells: cells, Side: r.below(2), Clock: r.below(121), Full: 1 + r.below(9999)}
		if check.Well(p) == api.OK {
			l = append(l, p)
		}
	}
	return l
}

// played are positions that games come to.
func played() []api.Position {
	l := []api.Position{start, {Cells: api.Start, Side: 1, Clock: 120, Full: 9999}}
	r := random(1442695040888963407)
	for range 6 {
		p := start
		for range 60 {
			moves := legal.Moves(p)
			if len(moves) == 0 {
				break
			}
			p, _, _ = legal.Make(p, moves[r.below(len(moves))])
			l = append(l, p)
		}
	}
	return l
}

// column are the squares of a file on which a piece stands, the front one first.
func column(cells string, c byte, file int) []int {
	var l []int
	for n := file; n < 90; n += 9 {
		if cells[n] == c {
			l = append(l, n)
		}
	}
	if c < 'a' {
		slices.Reverse(l)
	}
	return l
}

// name is the text of a file's number, seen from the side of a piece.
func name(c byte, file int) string {
	if c < 'a' {
		return "987654321"[file : file+1]
	}
	return "123456789"[file : file+1]
}

// who is a move's first half, told from the chapter's words.
func who(cells string, n int) string {
	c := cells[n]
	letter, mine := strings.ToUpper(string(rune(c))), column(cells, c, n%9)
	if len(mine) == 1 || strings.Contains("KAB", letter) {
		return letter + name(c, n%9)
	}
	others := 0
	for file := range 9 {
		if file != n%9 && len(column(cells, c, file)) > 1 {
			others++
		}
	}
	i := slices.Index(mine, n)
	if len(mine) == 2 && others == 0 {
		return "+-"[i:i+1] + letter
	}
	return strconv.Itoa(i+1) + name(c, n%9)
}

// plain is a move's text, told from the chapter's words.
func plain(p api.Position, m api.Move) string {
	c := p.Cells[m.From]
	ranks := m.To/9 - m.From/9
	if c >= 'a' {
		ranks = -ranks
	}
	first, isBent := who(p.Cells, m.From), strings.Contains("NABnab", string(rune(c)))
	switch {
	case ranks == 0:
		return first + "=" + name(c, m.To%9)
	case ranks > 0 && isBent:
		return first + "+" + name(c, m.To%9)
	case isBent:
		return first + "-" + name(c, m.To%9)
	case ranks > 0:
		return first + "+" + strconv.Itoa(ranks)
	}
	return first + strconv.Itoa(ranks)
}

// nowhere are numbers that are no squares.
func nowhere() []int {
	return []int{math.MinInt, math.MinInt + 1, -1 << 32, -256, -91, -90, -9, -1, 90, 91, 99, 255, 256, 1 << 32, 1<<32 + 18, math.MaxInt - 9, math.MaxInt}
}

// wrong are positions that are not right, each with what is wrong.
func wrong() map[api.Position]api.Errno {
	facing, attacked, misplaced := with("Kk", 4, 85), with("KkR", 4, 84, 81), with("KkB", 4, 85, 3)
	return map[api.Position]api.Errno{
		{}:                                              api.ErrArg,
		{Cells: api.Start}:                              api.ErrArg,
		{Cells: api.Start, Full: 10000}:                 api.ErrArg,
		{Cells: api.Start, Full: 1, Clock: -1}:          api.ErrArg,
		{Cells: api.Start, Full: 1, Clock: 121}:         api.ErrArg,
		{Cells: api.Start, Full: 1, Side: -1}:           api.ErrArg,
		{Cells: api.Start, Full: 1, Side: 2}:            api.ErrArg,
		{Cells: api.Start[1:], Full: 1}:                 api.ErrArg,
		{Cells: api.Start + ".", Full: 1}:               api.ErrArg,
		{Cells: strings.Repeat("\x00", 90), Full: 1}:    api.ErrArg,
		{Cells: with(""), Full: 1}:                      api.ErrCount,
		{Cells: board.Put(misplaced, 5, 'K'), Full: 1}:  api.ErrCount,
		{Cells: misplaced, Full: 1}:                     api.ErrPlace,
		{Cells: facing, Full: 1}:                        api.ErrFacing,
		{Cells: board.Put(facing, 81, 'R'), Full: 1}:    api.ErrFacing,
		{Cells: attacked, Full: 1}:                      api.ErrCheck,
		{Cells: board.Turn(attacked), Side: 1, Full: 1}: api.ErrCheck,
	}
}

func wantRank(t *testing.T, cells string, n int, which int, many int) {
	t.Helper()
	if a, b := wxf.Rank(cells, n); a != which || b != many {
		t.Errorf("P13.1: %q, %d: got %d, %d, want %d, %d", cells, n, a, b, which, many)
	}
}

// wantText wants a move's text, and the move of that text.
func wantText(t *testing.T, p api.Position, m api.Move, want string) {
	t.Helper()
	if s, e := wxf.Print(p, m); s != want || e != api.OK {
		t.Errorf("P13.2: %#v, %v: got %q, %d, want %q", p, m, s, e, want)
	}
	if got, e := wxf.Parse(p, want); got != m || e != api.OK {
		t.Errorf("P13.3: %#v, %q: got %v, %d, want %v", p, want, got, e, m)
	}
}

// wantBoth wants a move's text, and the same one of that move from the other side.
func wantBoth(t *testing.T, p api.Position, from int, to int, want string) {
	t.Helper()
	m := api.Move{From: from, To: to}
	wantText(t, p, m, want)
	wantText(t, turned(p), turnedMove(m), want)
}

func wantNoText(t *testing.T, p api.Position, m api.Move, want api.Errno) {
	t.Helper()
	if s, e := wxf.Print(p, m); s != "" || e != want {
		t.Errorf("P13.2: %#v, %v: got %q, %d, want %d", p, m, s, e, want)
	}
}

func wantNoMove(t *testing.T, p api.Position, s string, want api.Errno) {
	t.Helper()
	if m, e := wxf.Parse(p, s); m != (api.Move{}) || e != want {
		t.Errorf("P13.3: %#v, %.60q: got %v, %d, want %d", p, s, m, e, want)
	}
}

func TestRank(t *testing.T) {
	for file := range 9 {
		for _, c := range []byte(letters) {
			for many := 1; many <= 5; many++ {
				cells := with("")
				for i := range many {
					cells = board.Put(cells, file+9*(i*2+i/4), c)
				}
				for i := range many {
					which := many - i
					if c >= 'a' {
						which = i + 1
					}
					wantRank(t, cells, file+9*(i*2+i/4), which, many)
				}
			}
		}
	}
}

func TestRankOfOthersOnTheFile(t *testing.T) {
	// The same kind of the other side, and other kinds of its own, don't count; nor do other files.
	cells := with("RrRCrRPKRr", 0, 9, 18, 27, 36, 45, 54, 63, 1, 10)
	for n, want := range map[int][2]int{0: {3, 3}, 18: {2, 3}, 45: {1, 3}, 9: {1, 2}, 36: {2, 2}, 27: {1, 1}, 54: {1, 1}, 63: {1, 1}, 1: {1, 1}, 10: {1, 1}, 72: {0, 0}, 81: {0, 0}, 19: {0, 0}} {
		wantRank(t, cells, n, want[0], want[1])
	}
	full := strings.Repeat("C", 45) + strings.Repeat("c", 45)
	for n := range 45 {
		wantRank(t, full, n, 5-n/9, 5)
		wantRank(t, full, 45+n, 1+n/9, 5)
	}
	for n := range 90 {
		wantRank(t, strings.Repeat("N", 90), n, 10-n/9, 10)
		wantRank(t, strings.Repeat("n", 90), n, 1+n/9, 10)
	}
}

func TestRankOfAnyBoard(t *testing.T) {
	r := random(2862933555777941757)
	for i := range 100 {
		cells := []byte(with(""))
		for n := range cells {
			if r.below(10) <= i%10 {
				cells[n] = letters[r.below(1+i%14)]
			}
		}
		s := string(cells)
		for n := range 90 {
			if s[n] == '.' {
				wantRank(t, s, n, 0, 0)
				continue
			}
			l := column(s, s[n], n%9)
			wantRank(t, s, n, 1+slices.Index(l, n), len(l))
		}
	}
}

func TestRankOfNothing(t *testing.T) {
	s := api.Start
	for _, n := range nowhere() {
		wantRank(t, s, n, 0, 0)
		wantRank(t, "", n, 0, 0)
	}
	for n := range 90 {
		wantRank(t, with(""), n, 0, 0)
		for _, cells := range []string{"", "K", "R", s[:89], s[1:], s + ".", s + s, s[:89] + "x", "x" + s[1:], s[:44] + "E" + s[45:], s[:44] + "\x00" + s[45:], s[:89] + " ", strings.Repeat("R", 89), strings.Repeat("R", 91), strings.Repeat("é", 45)} {
			wantRank(t, cells, n, 0, 0)
		}
	}
}

func TestExamples(t *testing.T) {
	wantText(t, start, api.Move{From: 25, To: 22}, "C2=5")
	wantText(t, start, api.Move{From: 1, To: 20}, "N8+7")
}

func TestFilesFromBothSides(t *testing.T) {
	for file := range 9 {
		// An advisor stands ahead of each general, so that none is attacked along file 4.
		red := api.Position{Cells: with("KAkaR", 4, 13, 85, 76, 27+file), Full: 1}
		black := api.Position{Cells: with("KAkar", 4, 13, 85, 76, 27+file), Side: 1, Full: 1}
		for to := range 9 {
			if to == file {
				continue
			}
			m := api.Move{From: 27 + file, To: 27 + to}
			wantText(t, red, m, "R"+strconv.Itoa(9-file)+"="+strconv.Itoa(9-to))
			wantText(t, black, m, "R"+strconv.Itoa(file+1)+"="+strconv.Itoa(to+1))
		}
		for to, way := range map[int][2]string{18: {"-1", "+1"}, 36: {"+1", "-1"}, 45: {"+2", "-2"}, 54: {"+3", "-3"}, 63: {"+4", "-4"}} {
			m := api.Move{From: 27 + file, To: to + file}
			wantText(t, red, m, "R"+strconv.Itoa(9-file)+way[0])
			wantText(t, black, m, "R"+strconv.Itoa(file+1)+way[1])
		}
	}
}

func TestEachKindOfRed(t *testing.T) {
	for _, c := range []struct {
		piece string
		from  int
		texts map[int]string
	}{
		{"A", 13, map[int]string{21: "A5+6", 23: "A5+4", 5: "A5-4"}},
		{"A", 5, map[int]string{13: "A4+5"}},
		{"A", 23, map[int]string{13: "A4-5"}},
		{"B", 22, map[int]string{38: "B5+7", 42: "B5+3", 2: "B5-7", 6: "B5-3"}},
		{"B", 18, map[int]string{38: "B9+7", 2: "B9-7"}},
		{"B", 26, map[int]string{42: "B1+3", 6: "B1-3"}},
		{"N", 40, map[int]string{57: "N5+6", 59: "N5+4", 47: "N5+7", 51: "N5+3", 29: "N5-7", 33: "N5-3", 21: "N5-6", 23: "N5-4"}},
		{"R", 36, map[int]string{0: "R9-4", 27: "R9-1", 45: "R9+1", 81: "R9+5", 37: "R9=8", 44: "R9=1"}},
		{"R", 8, map[int]string{89: "R1+9", 80: "R1+8", 4: "R1=5"}},
		{"R", 80, map[int]string{8: "R1-8", 17: "R1-7", 89: "R1+1", 75: "R1=6"}},
		{"C", 44, map[int]string{8: "C1-4", 35: "C1-1", 53: "C1+1", 89: "C1+5", 43: "C1=2", 36: "C1=9"}},
		{"P", 27, map[int]string{36: "P9+1"}},
		{"P", 45, map[int]string{54: "P9+1", 46: "P9=8"}},
		{"P", 53, map[int]string{62: "P1+1", 52: "P1=2"}},
		{"P", 58, map[int]string{67: "P5+1", 57: "P5=6", 59: "P5=4"}},
		{"P", 81, map[int]string{82: "P9=8"}},
	} {
		for to, want := range c.texts {
			wantBoth(t, at(c.piece, c.from), c.from, to, want)
		}
	}
	wantBoth(t, api.Position{Cells: with("KkR", 3, 76, 89), Full: 1}, 89, 8, "R1-9")
	wantBoth(t, api.Position{Cells: with("KkC", 3, 76, 81), Full: 1}, 81, 0, "C9-9")
	p := api.Position{Cells: with("Kk", 13, 84), Full: 1}
	for to, want := range map[int]string{22: "K5+1", 4: "K5-1", 14: "K5=4"} {
		wantBoth(t, p, 13, to, want)
	}
	wantBoth(t, api.Position{Cells: with("Kk", 23, 84), Full: 1}, 23, 14, "K4-1")
	wantBoth(t, api.Position{Cells: with("Kk", 5, 85), Full: 1}, 5, 14, "K4+1")
	wantBoth(t, api.Position{Cells: with("KkP", 5, 85, 40), Full: 1}, 5, 4, "K4=5")
}

func TestEachKindOfBlack(t *testing.T) {
	for _, c := range []struct {
		pieces  string
		squares []int
		texts   map[int]string // of the last one
	}{
		{"Kk", []int{3, 76}, map[int]string{67: "K5+1", 85: "K5-1", 77: "K5=6"}},
		{"Kka", []int{4, 84, 76}, map[int]string{66: "A5+4", 68: "A5+6", 86: "A5-6"}},
		{"Kkb", []int{3, 85, 67}, map[int]string{47: "B5+3", 51: "B5+7", 83: "B5-3", 87: "B5-7"}},
		{"Kkn", []int{3, 85, 49}, map[int]string{30: "N5+4", 32: "N5+6", 38: "N5+3", 42: "N5+7", 56: "N5-3", 60: "N5-7", 66: "N5-4", 68: "N5-6"}},
		{"Kkr", []int{3, 85, 45}, map[int]string{0: "R1+5", 36: "R1+1", 54: "R1-1", 81: "R1-4", 46: "R1=2", 53: "R1=9"}},
		{"Kkc", []int{3, 85, 53}, map[int]string{8: "C9+5", 44: "C9+1", 62: "C9-1", 89: "C9-4", 52: "C9=8", 45: "C9=1"}},
		{"Kkp", []int{3, 85, 62}, map[int]string{53: "P9+1"}},
		{"Kkp", []int{3, 85, 44}, map[int]string{35: "P9+1", 43: "P9=8"}},
		{"Kkp", []int{3, 85, 31}, map[int]string{22: "P5+1", 30: "P5=4", 32: "P5=6"}},
		{"Kkp", []int{3, 85, 0}, map[int]string{1: "P1=2"}},
	} {
		p := api.Position{Cells: with(c.pieces, c.squares...), Side: 1, Full: 1}
		for to, want := range c.texts {
			wantBoth(t, p, c.squares[len(c.squares)-1], to, want)
		}
	}
}

func TestTakingChangesNoText(t *testing.T) {
	p := at("RNCPrpnc", 36, 40, 64, 58, 81, 44, 57, 67)
	wantBoth(t, p, 36, 81, "R9+5")
	wantBoth(t, p, 40, 57, "N5+6")
	wantBoth(t, p, 58, 67, "P5+1")
	wantBoth(t, p, 58, 57, "P5=6")
	wantBoth(t, start, 19, 82, "C8+7")
}

func TestTwoOnAFile(t *testing.T) {
	for _, c := range []string{"R", "C", "N"} {
		for file := range 9 {
			for _, ranks := range [][2]int{{1, 2}, {1, 7}, {5, 6}, {2, 8}} {
				p := at(c+c, 9*ranks[0]+file, 9*ranks[1]+file)
				for _, m := range legal.Moves(p) {
					first := ""
					switch m.From {
					case 9*ranks[0] + file:
						first = "-" + c
					case 9*ranks[1] + file:
						first = "+" + c
					default:
						continue
					}
					wantBoth(t, p, m.From, m.To, first+plain(p, m)[2:])
				}
			}
		}
	}
	p := at("RR", 10, 37)
	wantBoth(t, p, 37, 46, "+R+1")
	wantBoth(t, p, 10, 11, "-R=7")
	wantBoth(t, p, 10, 28, "-R+2")
	p = at("CC", 18, 54)
	wantBoth(t, p, 54, 27, "+C-3")
	wantBoth(t, p, 18, 26, "-C=1")
	p = at("NN", 19, 46)
	wantBoth(t, p, 46, 29, "+N-7")
	wantBoth(t, p, 19, 36, "-N+9")
	// On two files they are no tandem, nor with the other side's, nor with another kind.
	p = at("RRrr", 10, 38, 28, 19)
	wantBoth(t, p, 10, 11, "R8=7")
	wantBoth(t, p, 38, 47, "R7+1")
	p = at("RCNP", 10, 19, 28, 46)
	wantBoth(t, p, 10, 11, "R8=7")
	wantBoth(t, p, 19, 20, "C8=7")
	wantBoth(t, p, 28, 39, "N8+6")
	wantBoth(t, p, 46, 55, "P8+1")
}

func TestEachKindsTandem(t *testing.T) {
	// A tandem of one kind is no matter for another kind's, and a letter tells which one is meant.
	p := at("RRCCNNPP", 0, 72, 9, 63, 18, 54, 27, 45)
	wantBoth(t, p, 72, 73, "+R=8")
	wantBoth(t, p, 0, 1, "-R=8")
	wantBoth(t, p, 63, 64, "+C=8")
	wantBoth(t, p, 9, 10, "-C=8")
	wantBoth(t, p, 54, 65, "+N+7")
	wantBoth(t, p, 18, 29, "-N+7")
	wantBoth(t, p, 45, 46, "+P=8")
	wantBoth(t, p, 27, 36, "-P+1")
	q := at("RRCCNNPP", 0, 72, 10, 64, 20, 56, 31, 49)
	wantBoth(t, q, 49, 48, "+P=6")
	wantBoth(t, q, 31, 40, "-P+1")
	wantBoth(t, q, 20, 1, "-N-8")
	wantBoth(t, q, 10, 11, "-C=7")
}

func TestPawnsOfOneFile(t *testing.T) {
	p := at("P", 49)
	wantBoth(t, p, 49, 58, "P5+1")
	p = at("PP", 49, 58)
	wantBoth(t, p, 58, 67, "+P+1")
	wantBoth(t, p, 58, 57, "+P=6")
	wantBoth(t, p, 49, 48, "-P=6")
	wantBoth(t, p, 49, 50, "-P=4")
	// Three, four and five are numbered, wherever they stand.
	p = at("PPP", 31, 49, 67)
	wantBoth(t, p, 67, 76, "15+1")
	wantBoth(t, p, 67, 66, "15=6")
	wantBoth(t, p, 49, 50, "25=4")
	wantBoth(t, p, 31, 40, "35+1")
	p = at("PPPP", 45, 54, 63, 81)
	wantBoth(t, p, 81, 82, "19=8")
	wantBoth(t, p, 63, 72, "29+1")
	wantBoth(t, p, 54, 55, "39=8")
	wantBoth(t, p, 45, 46, "49=8")
	p = at("PPPPP", 35, 53, 62, 71, 80)
	wantBoth(t, p, 80, 89, "11+1")
	wantBoth(t, p, 71, 70, "21=2")
	wantBoth(t, p, 62, 61, "31=2")
	wantBoth(t, p, 53, 52, "41=2")
	wantBoth(t, p, 35, 44, "51+1")
	// The other side's on that file don't count.
	p = at("PPppp", 47, 65, 29, 38, 56)
	wantBoth(t, p, 65, 64, "+P=8")
	wantBoth(t, p, 47, 46, "-P=8")
}

func TestPawnsOfTwoFiles(t *testing.T) {
	// A pawn alone on its file keeps its letter, whatever tandems there are.
	p := at("PPP", 49, 58, 47)
	wantBoth(t, p, 47, 46, "P7=8")
	wantBoth(t, p, 58, 57, "+P=6")
	wantBoth(t, p, 49, 48, "-P=6")
	p = at("PPPP", 49, 58, 67, 47)
	wantBoth(t, p, 47, 46, "P7=8")
	wantBoth(t, p, 58, 57, "25=6")
	// Two and two: both files are numbered, from their own fronts on.
	p = at("PPPP", 49, 58, 47, 56)
	wantBoth(t, p, 58, 57, "15=6")
	wantBoth(t, p, 49, 50, "25=4")
	wantBoth(t, p, 56, 55, "17=8")
	wantBoth(t, p, 47, 46, "27=8")
	// Two and two, and one.
	p = at("PPPPP", 49, 58, 47, 56, 53)
	wantBoth(t, p, 58, 59, "15=4")
	wantBoth(t, p, 47, 46, "27=8")
	wantBoth(t, p, 53, 52, "P1=2")
	// Three and two.
	p = at("PPPPP", 49, 58, 67, 46, 82)
	wantBoth(t, p, 67, 76, "15+1")
	wantBoth(t, p, 58, 57, "25=6")
	wantBoth(t, p, 49, 50, "35=4")
	wantBoth(t, p, 82, 83, "18=7")
	wantBoth(t, p, 46, 55, "28+1")
	// Two, and one on each of three files.
	p = at("PPPPP", 45, 54, 47, 49, 51)
	wantBoth(t, p, 54, 63, "+P+1")
	wantBoth(t, p, 45, 46, "-P=8")
	wantBoth(t, p, 47, 56, "P7+1")
	wantBoth(t, p, 49, 48, "P5=6")
	wantBoth(t, p, 51, 60, "P3+1")
	// The other side's tandem is another matter.
	p = at("PPpp", 49, 58, 47, 56)
	wantBoth(t, p, 58, 57, "+P=6")
	wantBoth(t, p, 49, 48, "-P=6")
}

func TestAdvisorsAndElephantsOnAFile(t *testing.T) {
	p := api.Position{Cells: with("KkAA", 4, 86, 5, 23), Full: 1}
	wantBoth(t, p, 5, 13, "A4+5")
	wantBoth(t, p, 23, 13, "A4-5")
	p = at("AA", 5, 23)
	wantBoth(t, p, 5, 13, "A4+5")
	wantBoth(t, p, 23, 13, "A4-5")
	p = at("BB", 2, 38)
	wantBoth(t, p, 2, 18, "B7+9")
	wantBoth(t, p, 2, 22, "B7+5")
	wantBoth(t, p, 38, 18, "B7-9")
	wantBoth(t, p, 38, 22, "B7-5")
	p = at("BB", 6, 42)
	wantBoth(t, p, 6, 22, "B3+5")
	wantBoth(t, p, 42, 26, "B3-1")
}

func TestPrintOfWrongPositions(t *testing.T) {
	for p, want := range wrong() {
		for _, m := range []api.Move{{}, {To: 9}, {From: 25, To: 22}, {From: 3, To: 12}, {From: -1, To: 90}, {From: math.MinInt, To: math.MaxInt}} {
			wantNoText(t, p, m, want)
		}
		// It goes ahead of what is wrong with the text.
		for _, s := range []string{"", "C", "C2=", "C2=5", "C2=9", "C2=5 ", "xxxx", strings.Repeat("C2=5", 10000)} {
			wantNoMove(t, p, s, want)
		}
		if l := wxf.All(p); len(l) != 0 {
			t.Errorf("P13.2: All of %#v: %v", p, l)
		}
	}
}

func TestMovesThatMayNotBeMade(t *testing.T) {
	for _, p := range []api.Position{start, {Cells: api.Start, Side: 1, Full: 1}, at("RRCCNNPPPPPrcn", 0, 72, 9, 63, 18, 54, 27, 45, 31, 49, 58, 80, 71, 62)} {
		for from := range 90 {
			for to := range 90 {
				m := api.Move{From: from, To: to}
				if legal.Is(p, m) {
					wantText(t, p, m, plain(p, m))
				} else {
					wantNoText(t, p, m, api.ErrMove)
				}
			}
		}
		for _, n := range nowhere() {
			for _, m := range []api.Move{{From: n}, {To: n}, {From: n, To: n}, {From: 25, To: n}, {From: n, To: 22}} {
				wantNoText(t, p, m, api.ErrMove)
			}
		}
	}
	// A piece reaches there, but its own general would be taken, or face the other: neither text nor move.
	for _, p := range []api.Position{
		{Cells: with("KNrk", 4, 13, 31, 84), Full: 1},
		{Cells: with("KNk", 4, 13, 85), Full: 1},
	} {
		wantNoText(t, p, api.Move{From: 13, To: 24}, api.ErrMove)
		wantNoMove(t, p, "N5+3", api.ErrMove)
		wantNoMove(t, turned(p), "N5+3", api.ErrMove)
	}
	mate := api.Position{Cells: with("Kkrr", 4, 84, 0, 9), Full: 1}
	wantNoText(t, mate, api.Move{From: 4, To: 13}, api.ErrMove)
	wantNoMove(t, mate, "K5+1", api.ErrMove)
	if l := wxf.All(mate); len(l) != 0 {
		t.Errorf("P13.2: %v", l)
	}
}

func TestTextsOfOtherLengths(t *testing.T) {
	whole := "C2=5N8+7"
	for i := range len(whole) {
		for j := i; j <= len(whole); j++ {
			switch s := whole[i:j]; {
			case s == "C2=5", s == "N8+7":
			case len(s) == 4:
				wantNoMove(t, start, s, api.ErrMove)
			default:
				wantNoMove(t, start, s, api.ErrForm)
			}
		}
	}
	for _, s := range []string{"C2=5 ", " C2=5", "C2=5\n", "C2=5\x00", "\x00C2=5", "C2 =5", "C2=", "2=5", "=5", "砲", "砲2=5", "C2=é", "炮二平五", "é2=5", "éC=5", "++C=5", "11+C=5", strings.Repeat("C2=5", 2), strings.Repeat("C", 100000)} {
		wantNoMove(t, start, s, api.ErrForm)
	}
	// What counts are bytes, be they characters or not.
	for _, s := range []string{"é=5", "éé", "砲2", "C2é", "\xff\xff\xff\xff", "\x00\x00\x00\x00", "    ", "...."} {
		wantNoMove(t, start, s, api.ErrMove)
	}
}

func TestTextsThatFitNoMove(t *testing.T) {
	for _, s := range []string{
		"c2=5", "n8+7", "r9+1", "p5+1", "C2=0", "C0=5", "C0=0", "C2+0", "C2-0", "C2=2", "C2+9", "C2-2",
		"H8+7", "E7+5", "G5+1", "M5+1", "X2=5", ".2=5", "22=5", "Q8+7", "W1+1",
		"+C=5", "-C=5", "+R+1", "-R+1", "+N+7", "12=5", "1C=5", "C+=5", "C-=5", "C2.5", "C2>5",
		"P9=8", "P9-1", "P9+2", "N8-7", "N8=7", "N8+6", "B7+7", "A6+6", "K5+2", "K5=5", "R9+0", "R9=8", "R9+3",
		"2C=5", "=C25", "C5=2", "5=2C", "C2=E", "C2=9", "C:=5", "C2=:", "C2=/",
	} {
		wantNoMove(t, start, s, api.ErrMove)
	}
	// On a tandem's file neither letter and file nor a number is its text; elsewhere no sign is.
	p := at("RRPP", 10, 37, 49, 58)
	for _, s := range []string{"R8=7", "R8+1", "18=7", "28=7", "1R=7", "2R=7", "R-=7", "P5=6", "15=6", "25=6", "35=6", "+r=7", "+p=6", "+K+1", "*P=6", " P=6"} {
		wantNoMove(t, p, s, api.ErrMove)
	}
	p = at("PPPP", 49, 58, 47, 56)
	for _, s := range []string{"+P=6", "-P=6", "+P=8", "-P=8", "P5=6", "P7=8", "05=6", "35=6", "1P=6", "15=8", "10=6", "15=0", "15=9"} {
		wantNoMove(t, p, s, api.ErrMove)
	}
}

func TestEachByte(t *testing.T) {
	p := at("RRPPPPAN", 10, 37, 49, 58, 47, 56, 5, 40)
	known := map[string]api.Move{}
	for _, m := range legal.Moves(p) {
		known[plain(p, m)] = m
	}
	for _, s := range []string{"+R=7", "-R+1", "15=6", "A4+5", "N5+6", "K6+1"} {
		for i := range s {
			for c := range 256 {
				text := []byte(s)
				text[i] = byte(c)
				if m, ok := known[string(text)]; ok {
					wantText(t, p, m, string(text))
				} else {
					wantNoMove(t, p, string(text), api.ErrMove)
				}
			}
		}
	}
}

func TestAllTexts(t *testing.T) {
	signs, numbered := 0, 0
	for _, p := range append(scattered(), played()...) {
		moves, texts := legal.Moves(p), wxf.All(p)
		if len(texts) != len(moves) {
			t.Fatalf("P13.2: %#v: %d, want %d", p, len(texts), len(moves))
		}
		seen := map[string]api.Move{}
		for i, m := range moves {
			if want := plain(p, m); texts[i] != want {
				t.Errorf("P13.2: %#v, %v: got %q, want %q", p, m, texts[i], want)
			}
			if k, ok := seen[texts[i]]; ok {
				t.Errorf("P13.4: %#v: %v and %v are both %q", p, k, m, texts[i])
			}
			seen[texts[i]] = m
			switch texts[i][0] {
			case '+', '-':
				signs++
			case '1', '2', '3', '4', '5':
				numbered++
			}
		}
	}
	if signs < 500 || numbered < 100 {
		t.Errorf("P13.4: too little is seen: %d, %d", signs, numbered)
	}
}

func TestPrintedIsRead(t *testing.T) {
	for i, p := range append(scattered(), played()...) {
		moves := legal.Moves(p)
		for k := i % 5; k < len(moves); k += 5 {
			wantBoth(t, p, moves[k].From, moves[k].To, plain(p, moves[k]))
		}
	}
}

func TestListsAreNew(t *testing.T) {
	l := wxf.All(start)
	want := slices.Clone(l)
	clear(l)
	if got := wxf.All(start); !slices.Equal(got, want) || len(got) != 44 {
		t.Errorf("R5: %v, want %v", got, want)
	}
}

func FuzzParse(f *testing.F) {
	for _, s := range []string{"", "C2=5", "N8+7", "+R+1", "25=6", "C2=", "c2=5", "砲2", "P5+1"} {
		f.Add(s)
	}
	f.Fuzz(func(t *testing.T, s string) {
		m, e := wxf.Parse(start, s)
		switch {
		case e == api.OK:
			wantText(t, start, m, s)
		case len(s) == 4:
			wantNoMove(t, start, s, api.ErrMove)
		default:
			wantNoMove(t, start, s, api.ErrForm)
		}
	})
}
