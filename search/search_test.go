package search_test

import (
	"math"
	"slices"
	"strings"
	"testing"

	"riverbank/api"
	"riverbank/board"
	"riverbank/check"
	"riverbank/legal"
	"riverbank/place"
	"riverbank/quiet"
	"riverbank/search"
	"riverbank/table"
)

var (
	start = api.Position{Cells: api.Start, Full: 1}
	take  = red("KkRn", 3, 85, 36, 40)
	bare  = red("Kk", 3, 85)
	mate  = red("Kkrr", 4, 84, 12, 0)
	stale = red("Kkr", 4, 86, 12)
	wrong = move(-1, 90)
)

// with is an empty board on which these pieces stand, each on its square.
func with(pieces string, squares ...int) string {
	cells := []byte(strings.Repeat(".", api.Squares))
	for i, n := range squares {
		cells[n] = pieces[i]
	}
	return string(cells)
}

// red is a position of such a board, in which it is red's move.
func red(pieces string, squares ...int) api.Position {
	return api.Position{Cells: with(pieces, squares...), Full: 1}
}

// at is a position at a clock.
func at(p api.Position, clock int) api.Position {
	p.Clock = clock
	return p
}

func turned(p api.Position) api.Position {
	p.Cells, p.Side = board.Turn(p.Cells), 1-p.Side
	return p
}

func move(from int, to int) api.Move { return api.Move{From: from, To: to} }

// tableOf is an empty table of so many slots.
func tableOf(size int) *table.Table {
	t, _ := table.New(size)
	return t
}

// random is a row of numbers that is the same each time.
type random uint64

// below is its next one, from 0 on.
func (r *random) below(n int) int {
	*r ^= *r << 13
	*r ^= *r >> 7
	*r ^= *r << 17
	return int(*r % random(n))
}

// scattered are right positions, each made of the generals and some of these pieces, at a clock that is one of clocks.
func scattered(n int, pieces string, clocks ...int) []api.Position {
	var l []api.Position
	r := random(88172645463325252)
	for len(l) < n {
		cells := with("")
		for i, c := range []byte("Kk" + pieces) {
			points := place.Points(c)
			on := points[r.below(len(points))]
			if cells[on] == '.' && (i < 2 || r.below(5) > 0) {
				cells = board.Put(cells, on, c)
			}
		}
		p := api.Position{Cells: cells, Side: r.below(2), Clock: clocks[r.below(len(clocks))], Full: 1 + r.below(9999)}
		if check.Well(p) == api.OK {
			l = append(l, p)
		}
	}
	return l
}

// takers are positions where what wins most, two deep, is to threaten a capture that leaves the other side without a move;
// several moves do so.
func takers() []api.Position {
	return []api.Position{
		{Cells: ".............K...................R..........C........Rr.....N.....k........n..C.....a.a...", Full: 1},
		{Cells: "....N..C..............K....R......R............b......n..r.........bk...............a.....", Full: 1},
		{Cells: "......R.....RKCC..............................r...................N.a...............k..b..", Full: 1},
	}
}

// look is a position that is looked at so deep, so many plies behind the first one.
type look struct {
	p            api.Position
	depth, plies int
}

// tree tells what looks are worth by the chapter's words, once each.
type tree map[look]int

func (t tree) of(l look) int {
	worth, ok := t[l]
	if !ok {
		worth = t.anew(l)
		t[l] = worth
	}
	return worth
}

func (t tree) anew(l look) int {
	may := legal.Moves(l.p)
	switch {
	case len(may) == 0:
		return -10000 + l.plies
	case l.p.Clock == 120 && l.plies > 0:
		return 0
	case l.depth == 0:
		return quiet.Of(l.p)
	}
	worth := math.MinInt
	for _, m := range may {
		worth = max(worth, t.behind(l, m))
	}
	return worth
}

// behind is what a move is worth to who makes it.
func (t tree) behind(l look, m api.Move) int {
	q, _, _ := legal.Make(l.p, m)
	return -t.of(look{q, l.depth - 1, l.plies + 1})
}

// best is what Best must tell, of the moves that may be made that are among these.
func (t tree) best(p api.Position, depth int, among []api.Move) search.Result {
	var r search.Result
	for _, m := range legal.Moves(p) {
		if len(among) > 0 && !slices.Contains(among, m) {
			continue
		}
		if worth := t.behind(look{p, depth, 0}, m); !r.Found || worth > r.Score {
			r = search.Result{Move: m, Score: worth, Depth: depth, Found: true}
		}
	}
	return r
}

// sorts are positions of many kinds, each kind with how deep a plain tree can be gone through.
func sorts(each int) map[int][]api.Position {
	clocks := []int{0, 0, 50, 116, 117, 118, 119, 120}
	return map[int][]api.Position{
		4: slices.Concat(scattered(each, "P", clocks...), scattered(each, "p", clocks...), scattered(each, "", clocks...), scattered(each, "Aab", clocks...)),
		3: slices.Concat(scattered(each, "RPb", clocks...), scattered(each, "rna", clocks...), scattered(each, "CNPp", clocks...), scattered(each, "RRab", 0, 118)),
		2: slices.Concat(scattered(each, "RCNrcnPp", clocks...), scattered(each, "RRCrrn", clocks...)),
	}
}

func TestScore(t *testing.T) {
	t.Parallel()
	trees := tree{}
	seen := map[string]int{}
	for deepest, l := range sorts(8) {
		for _, p := range l {
			for depth := range deepest + 1 {
				want := trees.of(look{p, depth, 0})
				seen[class(want)]++
				for _, q := range []api.Position{p, turned(p)} {
					if got, e := search.Score(q, depth); got != want || e != api.OK {
						t.Errorf("P22.1: Score %v, %d: got %d, %d, want %d", q, depth, got, e, want)
					}
				}
			}
		}
	}
	enough(t, "P22.1", seen, 5, "lost", "won", "nothing", "more", "less")
}

// enough tells whether so many worths were seen of each of these kinds.
func enough(t *testing.T, promise string, seen map[string]int, most int, kinds ...string) {
	t.Helper()
	for _, c := range kinds {
		if seen[c] < most {
			t.Errorf("%s: too little was seen: %v", promise, seen)
		}
	}
}

// class is of what kind a worth is.
func class(worth int) string {
	switch {
	case worth == 10000:
		return "quiet won"
	case worth > 9000:
		return "won"
	case worth < -9000:
		return "lost"
	case worth > 0:
		return "more"
	case worth < 0:
		return "less"
	}
	return "nothing"
}

// TestScoreByHand goes by numbers that were reckoned by hand.
func TestScoreByHand(t *testing.T) {
	for _, c := range []struct {
		why   string
		p     api.Position
		depth int
		worth int
	}{
		{"the start", start, 0, 0},
		{"a horse that is taken", take, 0, 208},
		{"a horse that is taken: from its file the chariot goes nowhere better", take, 1, 208},
		{"two generals", bare, 3, 0},
		{"mate", mate, 0, -10000}, {"mate", mate, 1, -10000}, {"mate", mate, 64, -10000},
		{"no move, without check", stale, 0, -10000}, {"no move, without check", stale, 64, -10000},
		{"mate in one", red("KkRRp", 4, 84, 17, 72, 45), 1, 9999},
		{"no plies: the clock is of no moment", at(take, 120), 0, 208},
		{"the clock runs out, but not for a capture", at(take, 120), 1, 208},
		{"the clock runs out", at(red("KkR", 3, 85, 36), 119), 1, 0}, {"the clock runs out", at(red("KkR", 3, 85, 36), 119), 64, 0},
		{"the clock has run out", at(red("KkR", 3, 85, 36), 120), 1, 0}, {"the clock has run out", at(red("KkR", 3, 85, 36), 120), 64, 0},
		{"the clock does not run out yet", at(red("KkR", 3, 85, 36), 118), 1, 209},
		{"no move goes ahead of the clock", at(mate, 120), 1, -10000},
		{"mate goes ahead of the clock", at(red("KkRRp", 4, 84, 17, 72, 45), 119), 1, 9999},
		{"mate goes ahead of the clock", at(red("KkRRp", 4, 84, 17, 72, 45), 120), 1, 9999},
	} {
		for _, p := range []api.Position{c.p, turned(c.p)} {
			if got, e := search.Score(p, c.depth); got != c.worth || e != api.OK {
				t.Errorf("P22.1: %s: Score %v, %d: got %d, %d, want %d", c.why, p, c.depth, got, e, c.worth)
			}
		}
	}
}

func TestScoreErrors(t *testing.T) {
	for _, p := range others() {
		for _, depth := range []int{math.MinInt, -1, 0, 1, 2, 64, 65, math.MaxInt} {
			want := check.Well(p)
			if got, e := search.Score(p, depth); got != 0 || e != want {
				t.Errorf("P22.1: Score %v, %d: got %d, %d, want %d", p, depth, got, e, want)
			}
		}
	}
	for _, p := range []api.Position{start, take, mate, stale, at(bare, 120)} {
		for _, depth := range []int{math.MinInt, math.MinInt + 1, -1 << 32, -64, -1, 65, 66, 128, 1 << 32, 1<<32 + 1, math.MaxInt} {
			if got, e := search.Score(p, depth); got != 0 || e != api.ErrArg {
				t.Errorf("P22.1: Score %v, %d: got %d, %d, want %d", p, depth, got, e, api.ErrArg)
			}
		}
	}
}

// others are positions that are not right, of every kind.
func others() []api.Position {
	r := red("KkR", 3, 85, 36)
	l := []api.Position{
		{}, {Full: 1}, {Cells: strings.Repeat(".", 90), Full: 1}, {Cells: api.Start}, {Cells: api.Start, Full: 10000}, {Cells: api.Start, Full: math.MinInt},
		red("KkRr", 4, 85, 36, 38), red("KkR", 3, 85, 40), red("KKkR", 3, 4, 86, 36), red("KkRRR", 3, 85, 36, 37, 38), red("KkA", 3, 85, 4), red("kR", 85, 36), red("KR", 3, 36),
	}
	for _, cells := range []string{r.Cells[1:], r.Cells + ".", strings.Replace(r.Cells, "R", "x", 1), strings.Replace(r.Cells, "R", "\xff", 1)} {
		l = append(l, api.Position{Cells: cells, Full: 1})
	}
	for _, n := range []int{math.MinInt, -1, 121, math.MaxInt} {
		side := r
		side.Side = n
		l = append(l, at(r, n), side)
	}
	return l
}

// TestOthers tells that all errors of a position are among others.
func TestOthers(t *testing.T) {
	seen := map[api.Errno]int{}
	for _, p := range others() {
		seen[check.Well(p)]++
	}
	for _, e := range []api.Errno{api.ErrArg, api.ErrPlace, api.ErrCount, api.ErrFacing, api.ErrCheck} {
		if seen[e] == 0 {
			t.Errorf("no position with error %d", e)
		}
	}
	if seen[api.OK] > 0 {
		t.Error("a position is right")
	}
}

// same tells whether Best tells what it must, with a table.
func same(t *testing.T, p api.Position, depth int, among []api.Move, x *table.Table, want search.Result) {
	t.Helper()
	kept := slices.Clone(among)
	got, e := search.Best(p, depth, among, x)
	if got != want || e != api.OK {
		t.Errorf("P22.2: Best of %v, %d, %v: got %v, %d, want %v", p, depth, among, got, e, want)
	}
	if !slices.Equal(among, kept) {
		t.Errorf("R5: Best of %v, %d changed the moves: %v, they were %v", p, depth, among, kept)
	}
}

func TestBest(t *testing.T) {
	t.Parallel()
	trees := tree{}
	seen := map[string]int{}
	for deepest, l := range sorts(4) {
		for _, p := range l {
			for depth := 1; depth <= deepest; depth++ {
				for _, q := range []api.Position{p, turned(p)} {
					want := trees.best(q, depth, nil)
					seen[class(want.Score)]++
					same(t, q, depth, nil, nil, want)
					same(t, q, depth, []api.Move{}, tableOf(api.MaxTable), want)
					same(t, q, depth, legal.Moves(q), tableOf(5), want)
					if s, _ := search.Score(q, depth); want.Found && s != want.Score {
						t.Errorf("P22.1: %v, %d: Score is %d, and Best's %d", q, depth, s, want.Score)
					}
				}
			}
		}
	}
	enough(t, "P22.2", seen, 4, "lost", "won", "nothing", "more", "less")
}

// shuffled are some of these moves, in any order, some of them twice.
func shuffled(r *random, may []api.Move) []api.Move {
	var l []api.Move
	for range 1 + r.below(2*len(may)) {
		l = append(l, may[r.below(len(may))])
	}
	return l
}

func TestBestTakers(t *testing.T) {
	t.Parallel()
	for _, p := range takers() {
		for _, q := range []api.Position{p, turned(p)} {
			trees := tree{}
			for depth := 1; depth <= 2; depth++ {
				want := trees.best(q, depth, nil)
				same(t, q, depth, nil, nil, want)
				same(t, q, depth, nil, tableOf(30), want)
				if depth == 2 && want.Score != 10000 {
					t.Errorf("%v wins no more than %d", q, want.Score)
				}
			}
		}
	}
}

func TestBestAmong(t *testing.T) {
	t.Parallel()
	trees := tree{}
	r := random(2862933555777941757)
	equal := 0
	for deepest, l := range sorts(5) {
		for _, p := range l {
			may := legal.Moves(p)
			if len(may) == 0 {
				continue
			}
			for depth := 1; depth <= min(deepest, 3); depth++ {
				for range 3 {
					among := shuffled(&r, may)
					want := trees.best(p, depth, among)
					if among[0] != want.Move && trees.behind(look{p, depth, 0}, among[0]) == want.Score {
						equal++
					}
					same(t, p, depth, among, nil, want)
					same(t, p, depth, among, tableOf(64), want)
				}
				one := may[r.below(len(may))]
				same(t, p, depth, []api.Move{one}, nil, trees.best(p, depth, []api.Move{one}))
			}
		}
	}
	if equal < 40 {
		t.Errorf("P22.2: too few were as good as the first one: %d", equal)
	}
}

// TestBestTable has one table for many calls, in any order of depths.
func TestBestTable(t *testing.T) {
	t.Parallel()
	trees := tree{}
	r := random(1442695040888963407)
	for deepest, l := range sorts(4) {
		for _, p := range l {
			var wants []search.Result
			for depth := 1; depth <= deepest; depth++ {
				wants = append(wants, trees.best(p, depth, nil))
			}
			for _, x := range []*table.Table{nil, {}, tableOf(1), tableOf(2), tableOf(3), tableOf(50), tableOf(1021), tableOf(4096)} {
				for range 5 {
					depth := 1 + r.below(deepest)
					same(t, p, depth, nil, x, wants[depth-1])
				}
				for _, depth := range []int{deepest, 1, deepest - 1, deepest} {
					same(t, p, depth, nil, x, wants[depth-1])
				}
			}
		}
	}
}

// TestBestTableAmong has one table for calls with the same few moves.
func TestBestTableAmong(t *testing.T) {
	trees := tree{}
	r := random(88172645463325252)
	for _, l := range sorts(3) {
		for _, p := range l {
			may := legal.Moves(p)
			if len(may) == 0 {
				continue
			}
			among, x := shuffled(&r, may), tableOf(4096)
			for _, depth := range []int{2, 1, 2, 1, 2} {
				same(t, p, depth, among, x, trees.best(p, depth, among))
			}
		}
	}
}

// TestBestTableDeep has tables where the same position comes by many ways: a zero table takes nothing, so it tells what is
// told without any memory.
func TestBestTableDeep(t *testing.T) {
	t.Parallel()
	seen := map[string]int{}
	black := []api.Position{red("KpPRk", 12, 25, 38, 72, 86), red("pKRk", 8, 12, 44, 86), red("KnPPk", 12, 30, 46, 53, 67)}
	for i := range black {
		black[i].Side = 1
	}
	for _, p := range slices.Concat(black, scattered(3, "RPp", 0), scattered(3, "Rpr", 0, 116), scattered(3, "CAra", 0), scattered(3, "NPPpn", 0), scattered(3, "Ppab", 0)) {
		full := tableOf(4096)
		for _, depth := range []int{4, 5 - len(legal.Moves(p))/16, 4} {
			want, _ := search.Best(p, depth, nil, &table.Table{})
			seen[class(want.Score)]++
			same(t, p, depth, nil, full, want)
			same(t, p, depth, nil, tableOf(100), want)
			if s, _ := search.Score(p, depth); want.Found && s != want.Score {
				t.Errorf("P22.1: %v, %d: Score is %d, and Best's %d", p, depth, s, want.Score)
			}
		}
	}
	enough(t, "P22.2", seen, 3, "lost", "won", "more", "less")
}

// TestBestTableMates looks deeper and deeper at positions in which there is mate in three: nothing is worth more, so it stays
// the best, and what leads there later is worth less, though the table knows the same positions nearer.
func TestBestTableMates(t *testing.T) {
	for _, p := range []api.Position{red("KkR", 23, 85, 63), red("KkR", 21, 76, 44), red("KkR", 12, 76, 88), red("KkPP", 13, 77, 80, 84)} {
		x, want := tableOf(4096), tree{}.best(p, 3, nil)
		if want.Score != 9997 {
			t.Errorf("%v: no mate in three: %v", p, want)
		}
		for _, depth := range []int{3, 7, 5, 3} {
			want.Depth = depth
			same(t, p, depth, nil, x, want)
		}
	}
}

// TestBestUses tells that a table that is handed in is made use of, and none is needed.
func TestBestUses(t *testing.T) {
	x := tableOf(4096)
	r, _ := search.Best(take, 3, nil, x)
	if x.Count() == 0 {
		t.Error("P22.2: nothing was put into the table")
	}
	x.Clear()
	if again, _ := search.Best(take, 3, nil, x); again != r {
		t.Errorf("R6: got %v, and %v with the table empty again", r, again)
	}
}

func TestBestByHand(t *testing.T) {
	mating := red("KkRRp", 4, 84, 17, 72, 45)
	for _, c := range []struct {
		why   string
		p     api.Position
		depth int
		among []api.Move
		want  search.Result
	}{
		{"a horse that nobody guards", take, 1, nil, search.Result{Move: move(36, 40), Score: 208, Depth: 1, Found: true}},
		{"another move is asked for", take, 1, []api.Move{move(36, 37)}, search.Result{Move: move(36, 37), Score: 205 - 99, Depth: 1, Found: true}},
		{"mate", mating, 1, nil, search.Result{Move: move(17, 12), Score: 9999, Depth: 1, Found: true}},
		{"of two generals that go to and fro, the first one", bare, 2, nil, search.Result{Move: move(3, 12), Depth: 2, Found: true}},
		{"the clock runs out", at(red("KkR", 3, 85, 36), 119), 64, nil, search.Result{Move: move(3, 12), Depth: 64, Found: true}},
		{"the clock runs out, but for a capture", at(take, 119), 1, nil, search.Result{Move: move(36, 40), Score: 208, Depth: 1, Found: true}},
		{"no move, in check", mate, 1, nil, search.Result{}},
		{"no move, in check", mate, 64, nil, search.Result{}},
		{"no move, without check", stale, 3, nil, search.Result{}},
	} {
		same(t, c.p, c.depth, c.among, nil, c.want)
		same(t, c.p, c.depth, c.among, tableOf(77), c.want)
		if t.Failed() {
			t.Fatal(c.why)
		}
	}
}

func TestBestErrors(t *testing.T) {
	bad := []int{math.MinInt, -1, 0, 65, 66, math.MaxInt}
	lists := [][]api.Move{nil, {}, {wrong}, {move(36, 37)}, {move(36, 37), wrong}}
	for _, p := range others() {
		for _, depth := range append(bad, 1, 64) {
			for _, among := range lists {
				refused(t, p, depth, among, check.Well(p))
			}
		}
	}
	for _, p := range []api.Position{start, take, mate, stale} {
		for _, depth := range bad {
			for _, among := range lists {
				refused(t, p, depth, among, api.ErrArg)
			}
		}
	}
	// what stands on no square, is not there, is black's, is the own, is not reached, leaves the general
	pinned := red("KkNr", 3, 85, 12, 66)
	for _, m := range []api.Move{wrong, move(36, 90), move(-1, 37), move(36, 36), move(0, 1), move(40, 57), move(36, 46), move(36, 41), move(math.MinInt, math.MaxInt), {}} {
		for _, among := range [][]api.Move{{m}, {m, move(36, 37)}, {move(36, 37), m}, {move(36, 37), move(36, 37), m}} {
			refused(t, take, 1, among, api.ErrMove)
			refused(t, take, 64, among, api.ErrMove)
		}
		for _, p := range []api.Position{mate, stale} {
			refused(t, p, 1, []api.Move{m}, api.ErrMove)
		}
	}
	refused(t, pinned, 2, []api.Move{move(12, 31)}, api.ErrMove)
	refused(t, red("KkN", 3, 84, 39), 2, []api.Move{move(39, 58)}, api.ErrMove)
}

// refused tells whether Best refuses this, with a table or none, and leaves the table empty.
func refused(t *testing.T, p api.Position, depth int, among []api.Move, want api.Errno) {
	t.Helper()
	x := tableOf(64)
	for _, x := range []*table.Table{nil, x} {
		if r, e := search.Best(p, depth, among, x); r != (search.Result{}) || e != want {
			t.Errorf("P22.2: Best of %v, %d, %v: got %v, %d, want %d", p, depth, among, r, e, want)
		}
	}
	if x.Count() != 0 {
		t.Errorf("R3: Best of %v, %d, %v put something into the table", p, depth, among)
	}
}

func TestLimited(t *testing.T) {
	t.Parallel()
	trees := tree{}
	deeper := 0
	for deepest, l := range sorts(4) {
		for _, p := range l {
			for depth := 1; depth <= deepest; depth++ {
				for _, most := range []int{1, 2, 10, 100, 1000, 1000000, math.MaxInt} {
					r, e := search.Limited(p, depth, most)
					if e != api.OK || r.Found && (r.Depth < 1 || r.Depth > depth) {
						t.Fatalf("P22.3: Limited %v, %d, %d: %v, %d", p, depth, most, r, e)
					}
					if want := trees.best(p, max(r.Depth, 1), nil); r != want {
						t.Errorf("P22.3: Limited %v, %d, %d: got %v, want %v", p, depth, most, r, want)
					}
					if r.Found && depth <= 2 && most >= 1000000 && pieces(p) <= 6 {
						deeper++
						if r.Depth != depth {
							t.Errorf("P22.3: Limited %v, %d, %d: it was looked but %d deep", p, depth, most, r.Depth)
						}
					}
				}
			}
		}
	}
	if deeper < 100 {
		t.Errorf("P22.3: too few were to be looked at just so deep: %d", deeper)
	}
}

func pieces(p api.Position) int {
	return len(board.Pieces(p.Cells, 0)) + len(board.Pieces(p.Cells, 1))
}

// TestLimitedSix takes six pieces that have as many moves as six can have, for either side.
func TestLimitedSix(t *testing.T) {
	for _, p := range []api.Position{red("KkRRCC", 4, 84, 37, 52, 22, 31), red("KkRRrr", 4, 84, 37, 52, 58, 26), red("KkRCrc", 4, 84, 37, 52, 58, 26), red("KkRRrc", 4, 84, 37, 52, 58, 26)} {
		for _, q := range []api.Position{p, turned(p)} {
			for depth := 1; depth <= 2; depth++ {
				for _, most := range []int{1000000, 1000001, math.MaxInt} {
					want, _ := search.Best(q, depth, nil, nil)
					if r, e := search.Limited(q, depth, most); r != want || e != api.OK {
						t.Errorf("P22.3: Limited %v, %d, %d: got %v, %d, want %v", q, depth, most, r, e, want)
					}
				}
			}
		}
	}
}

// TestLimitedEnds asks for more than can be looked at.
func TestLimitedEnds(t *testing.T) {
	t.Parallel()
	for _, p := range []api.Position{start, take, bare} {
		for _, most := range []int{1, 500, math.MaxInt} {
			r, e := search.Limited(p, 64, most)
			if e != api.OK || !r.Found || r.Depth < 1 || r.Depth > 64 || !legal.Is(p, r.Move) {
				t.Errorf("P22.3: Limited %v, 64, %d: %v, %d", p, most, r, e)
			}
			if r.Depth <= 3 {
				if want, _ := search.Best(p, r.Depth, nil, nil); r != want {
					t.Errorf("P22.3: Limited %v, 64, %d: got %v, want %v", p, most, r, want)
				}
			}
			if again, _ := search.Limited(p, 64, most); again != r {
				t.Errorf("R6: Limited %v, 64, %d: got %v, then %v", p, most, r, again)
			}
		}
	}
}

func TestLimitedErrors(t *testing.T) {
	bad := []int{math.MinInt, -1, 0, 65, 66, math.MaxInt}
	for _, p := range others() {
		for _, depth := range append(bad, 1, 64) {
			for _, most := range []int{math.MinInt, 0, 1, 1000000} {
				if r, e := search.Limited(p, depth, most); r != (search.Result{}) || e != check.Well(p) {
					t.Errorf("P22.3: Limited %v, %d, %d: %v, %d", p, depth, most, r, e)
				}
			}
		}
	}
	for _, p := range []api.Position{start, take, mate, stale} {
		for _, depth := range bad {
			if r, e := search.Limited(p, depth, 9); r != (search.Result{}) || e != api.ErrArg {
				t.Errorf("P22.3: Limited %v, %d, 9: %v, %d", p, depth, r, e)
			}
		}
		for _, most := range []int{math.MinInt, math.MinInt + 1, -1 << 32, -1000000, -1, 0} {
			for _, depth := range []int{1, 2, 64} {
				if r, e := search.Limited(p, depth, most); r != (search.Result{}) || e != api.ErrArg {
					t.Errorf("P22.3: Limited %v, %d, %d: %v, %d", p, depth, most, r, e)
				}
			}
		}
	}
	for _, p := range []api.Position{mate, stale, turned(mate), at(stale, 120)} {
		for _, depth := range []int{1, 2, 64} {
			if r, e := search.Limited(p, depth, 1000000); r != (search.Result{}) || e != api.OK {
				t.Errorf("P22.3: Limited %v, %d, of no move: %v, %d", p, depth, r, e)
			}
		}
	}
}

// TestFollows tells what follows: the best move may be made, and no other one scores more.
func TestFollows(t *testing.T) {
	t.Parallel()
	for _, p := range append(scattered(20, "RCNPrcnp", 0, 118), start, turned(start)) {
		best, _ := search.Best(p, 2, nil, nil)
		if best.Found != (len(legal.Moves(p)) > 0) || best.Found && !legal.Is(p, best.Move) {
			t.Errorf("P22.4: Best of %v: %v", p, best)
		}
		before := true
		for _, m := range legal.Moves(p) {
			r, _ := search.Best(p, 2, []api.Move{m}, nil)
			before = before && m != best.Move
			if r.Move != m || r.Score > best.Score || before && r.Score == best.Score {
				t.Errorf("P22.4: Best of %v is %v, but of %v: %v", p, best, m, r)
			}
		}
	}
}

// TestStart looks three deep at a board with all pieces, by what all moves behind it score.
func TestStart(t *testing.T) {
	t.Parallel()
	x := tableOf(4096)
	for depth := 1; depth <= 3; depth++ {
		want, among := math.MinInt, []api.Move(nil)
		for _, m := range legal.Moves(start) {
			q, _, _ := legal.Make(start, m)
			// (Nobody is mated so early: so it is of no moment how many plies there were.)
			score, _ := search.Score(q, depth-1)
			switch {
			case -score > want:
				want, among = -score, []api.Move{m}
			case -score == want:
				among = append(among, m)
			}
		}
		same(t, start, depth, nil, x, search.Result{Move: among[0], Score: want, Depth: depth, Found: true})
	}
}

// TestDeep looks as deep as can be, where little can be moved.
func TestDeep(t *testing.T) {
	worn := at(red("KkP", 3, 85, 60), 117)
	for _, p := range []api.Position{bare, turned(bare), at(bare, 70), worn, turned(worn)} {
		r, e := search.Best(p, 64, nil, nil)
		if s, _ := search.Score(p, 64); !r.Found || r.Score != s || r.Depth != 64 || e != api.OK {
			t.Errorf("P22.2: Best of %v, 64: %v, %d; Score: %d", p, r, e, s)
		}
	}
	// Three plies on its clock has run out, and nothing can have been taken.
	three, _ := search.Best(worn, 3, nil, nil)
	if r, _ := search.Best(worn, 64, nil, nil); r.Move != three.Move || r.Score != three.Score {
		t.Errorf("P22.2: Best of %v: %v, three deep %v", worn, r, three)
	}
}
