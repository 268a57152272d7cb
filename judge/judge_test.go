package judge_test

import (
	"math"
	"slices"
	"strings"
	"testing"

	"riverbank/api"
	"riverbank/board"
	"riverbank/chase"
	"riverbank/check"
	"riverbank/cycle"
	"riverbank/judge"
	"riverbank/legal"
	"riverbank/place"
)

var (
	start    = api.Position{Cells: api.Start, Full: 1}
	stay     = move(0, 0) // leads nowhere else
	goes     = api.Verdict{}
	repeated = api.Verdict{Kind: api.Draw, Reason: api.Repeating}
	natural  = api.Verdict{Kind: api.Draw, Reason: api.Natural}

	rest = with("KkRr", 3, 85, 0, 89)

	// Games that end by themselves.
	checks   = api.Position{Cells: with("KkR", 3, 85, 36), Full: 1}
	checking = moves(36, 40, 85, 86, 40, 41, 86, 85, 41, 40)
	chases   = api.Position{Cells: with("KkRn", 3, 85, 54, 38), Full: 1}
	chasing  = moves(54, 36, 38, 57, 36, 54, 57, 38)
	fro      = moves(0, 9, 81, 72, 9, 0, 72, 81)
)

// with is an empty board on which these pieces stand, each on its square.
func with(pieces string, squares ...int) string {
	cells := []byte(strings.Repeat(".", api.Squares))
	for i, n := range squares {
		cells[n] = pieces[i]
	}
	return string(cells)
}

func move(from int, to int) api.Move { return api.Move{From: from, To: to} }

// moves are several, each one's From and To.
func moves(squares ...int) []api.Move {
	var l []api.Move
	for pair := range slices.Chunk(squares, 2) {
		l = append(l, move(pair[0], pair[1]))
	}
	return l
}

// staying are moves that lead nowhere.
func staying(n int) []api.Move { return slices.Repeat([]api.Move{stay}, n) }

// random is a row of numbers that is the same each time.
type random uint64

// below is its next one, from 0 on.
func (r *random) below(n int) int {
	*r ^= *r << 13
	*r ^= *r >> 7
	*r ^= *r << 17
	return int(*r % random(n))
}

// loses is the verdict that a side loses, for a reason.
func loses(side int, reason int) api.Verdict {
	if side == 0 {
		return api.Verdict{Kind: api.RedLoses, Reason: reason}
	}
	return api.Verdict{Kind: api.BlackLoses, Reason: reason}
}

// across is a verdict from the other side.
func across(v api.Verdict) api.Verdict {
	switch v.Kind {
	case api.RedLoses:
		v.Kind = api.BlackLoses
	case api.BlackLoses:
		v.Kind = api.RedLoses
	}
	return v
}

func turned(p api.Position) api.Position {
	return api.Position{Cells: board.Turn(p.Cells), Side: 1 - p.Side, Clock: p.Clock, Full: p.Full}
}

func mirrored(l []api.Move) []api.Move {
	var there []api.Move
	for _, m := range l {
		there = append(there, move(89-m.From, 89-m.To))
	}
	return there
}

func TestTable(t *testing.T) {
	want := [3][3]api.Verdict{
		{repeated, loses(1, api.Chasing), loses(1, api.Checking)},
		{loses(0, api.Chasing), repeated, loses(1, api.Checking)},
		{loses(0, api.Checking), loses(0, api.Checking), repeated},
	}
	// What each class is, and what counts as it.
	classes := [3][]int{
		{0, -1, -2, -3, -1 << 32, math.MinInt + 1, math.MinInt},
		{1},
		{2, 3, 4, 256, 1 << 32, 1<<32 + 1, math.MaxInt - 1, math.MaxInt},
	}
	for red, reds := range classes {
		for black, blacks := range classes {
			for _, a := range reds {
				for _, b := range blacks {
					if v := judge.Table(a, b); v != want[red][black] {
						t.Errorf("P18.1: %d, %d: got %v, want %v", a, b, v, want[red][black])
					}
					if judge.Table(b, a) != across(judge.Table(a, b)) {
						t.Errorf("P7: %d, %d: got %v, %v", a, b, judge.Table(a, b), judge.Table(b, a))
					}
				}
			}
		}
	}
}

func TestTableOfClasses(t *testing.T) {
	if v := judge.Table(cycle.Check, cycle.Chase); v != (api.Verdict{Kind: 2, Reason: 3}) {
		t.Errorf("P18.1: %v", v)
	}
	if v := judge.Table(cycle.Idle, cycle.Chase); v != (api.Verdict{Kind: 3, Reason: 4}) {
		t.Errorf("P18.1: %v", v)
	}
	if v := judge.Table(cycle.Idle, cycle.Idle); v != (api.Verdict{Kind: 1, Reason: 5}) {
		t.Errorf("P18.1: %v", v)
	}
}

// wantLast wants a verdict of some positions, and the other side's one of them turned round.
func wantLast(t *testing.T, name string, l []api.Position, m []api.Move, want api.Verdict) {
	t.Helper()
	oldL, oldM := slices.Clone(l), slices.Clone(m)
	if v := judge.Last(l, m); v != want {
		t.Errorf("P18.2: %s: got %v, want %v", name, v, want)
	}
	var there []api.Position
	for _, p := range l {
		there = append(there, turned(p))
	}
	if v := judge.Last(there, mirrored(m)); v != across(want) {
		t.Errorf("P7: %s, from the other side: got %v, want %v", name, v, across(want))
	}
	if !slices.Equal(l, oldL) || !slices.Equal(m, oldM) {
		t.Errorf("R5: %s: what was handed in is changed", name)
	}
}

// mates are positions of red's that are mate, stales those that are stalemate.
var (
	mates  = []string{with("Kkrr", 4, 84, 12, 0), with("Kkrr", 3, 85, 9, 0), with("Kkprr", 4, 85, 13, 30, 32)}
	stales = []string{with("Kkr", 4, 86, 12), with("KBkpp", 4, 2, 86, 12, 10)}
)

func TestLastOfOnePosition(t *testing.T) {
	for _, c := range []struct {
		name string
		p    api.Position
		want api.Verdict
	}{
		{"the start", start, goes},
		{"black's move", api.Position{Cells: api.Start, Side: 1, Full: 1}, goes},
		{"clock 119", api.Position{Cells: api.Start, Clock: 119, Full: 1}, goes},
		{"clock 120", api.Position{Cells: api.Start, Clock: 120, Full: 1}, natural},
		{"clock 120, black's move", api.Position{Cells: api.Start, Side: 1, Clock: 120, Full: 9999}, natural},
		{"in check", api.Position{Cells: with("Kkr", 3, 86, 30), Full: 1}, goes},
		{"in check at clock 120", api.Position{Cells: with("Kkr", 3, 86, 30), Clock: 120, Full: 1}, natural},
		{"mate", api.Position{Cells: mates[0], Full: 1}, loses(0, api.Mate)},
		{"mate of two on two ranks", api.Position{Cells: mates[1], Clock: 119, Full: 1}, loses(0, api.Mate)},
		{"mate at clock 120", api.Position{Cells: mates[0], Clock: 120, Full: 1}, loses(0, api.Mate)},
		{"mate, but the other one's move", api.Position{Cells: mates[0], Side: 1, Full: 1}, goes},
		{"mate, the other one's move, at clock 120", api.Position{Cells: mates[0], Side: 1, Clock: 120, Full: 1}, natural},
		{"stalemate", api.Position{Cells: stales[0], Full: 1}, loses(0, api.Stale)},
		{"mate by a pawn", api.Position{Cells: mates[2], Full: 1}, loses(0, api.Mate)},
		{"stalemate with an elephant", api.Position{Cells: stales[1], Full: 1}, loses(0, api.Stale)},
		{"stalemate at clock 120", api.Position{Cells: stales[0], Clock: 120, Full: 1}, loses(0, api.Stale)},
		{"stalemate, but the other one's move", api.Position{Cells: stales[0], Side: 1, Full: 1}, goes},
		// What is not right has no end of its own; its clock counts.
		{"nothing", api.Position{}, goes},
		{"nothing at clock 120", api.Position{Clock: 120}, natural},
		{"clock 121", api.Position{Cells: api.Start, Clock: 121, Full: 1}, goes},
		{"mate at clock 121", api.Position{Cells: mates[0], Clock: 121, Full: 1}, goes},
		{"clock -120", api.Position{Cells: api.Start, Clock: -120, Full: 1}, goes},
		{"generals that face one another", api.Position{Cells: with("Kk", 4, 85), Full: 1}, goes},
		{"generals that face one another, at clock 120", api.Position{Cells: with("Kk", 4, 85), Clock: 120, Full: 1}, natural},
	} {
		wantLast(t, c.name, []api.Position{c.p}, nil, c.want)
	}
}

func TestLastOfEnds(t *testing.T) {
	// What the side that has just moved did is of moment where the end is ahead: it gave check, or it did not.
	ahead := map[int]api.Verdict{api.Mate: loses(1, api.Checking), api.Stale: repeated}
	for reason, l := range map[int][]string{api.Mate: mates, api.Stale: stales} {
		for _, cells := range l {
			p, other := api.Position{Cells: cells, Clock: 2, Full: 2}, api.Position{Cells: rest, Side: 1, Clock: 1, Full: 1}
			wantLast(t, "an end behind a move", []api.Position{other, p}, staying(1), loses(0, reason))
			// An earlier one is the same: the end goes ahead.
			wantLast(t, "an end that comes again", []api.Position{p, other, p}, staying(2), loses(0, reason))
			p.Clock = 120
			wantLast(t, "an end that comes again at clock 120", []api.Position{p, other, p}, staying(2), loses(0, reason))
			// Ahead of the last one it is of no moment.
			wantLast(t, "an end ahead", []api.Position{p, other}, staying(1), goes)
			wantLast(t, "an end ahead of a cycle", []api.Position{other, p, other}, staying(2), ahead[reason])
		}
	}
}

func TestLastOfListsThatDoNotFit(t *testing.T) {
	mate := api.Position{Cells: mates[0], Clock: 120, Full: 1}
	limit := api.Position{Cells: api.Start, Clock: 120, Full: 1}
	for _, p := range []api.Position{mate, limit, start, {}} {
		for positions := range 5 {
			for m := range 5 {
				if positions != m+1 {
					wantLast(t, "lists that do not fit", slices.Repeat([]api.Position{p}, positions), staying(m), goes)
				}
			}
		}
	}
	wantLast(t, "empty lists", []api.Position{}, []api.Move{}, goes)
}

// deed is a board on which red, that has just moved, does what a letter says.
func deed(c byte) string {
	switch c {
	case 'c':
		return with("KkR", 3, 85, 40)
	case 'x':
		return with("KkRn", 3, 85, 36, 40)
	case 'X': // another board, the same square
		return with("KkRn", 3, 85, 37, 40)
	case 'y':
		return with("KkRn", 3, 85, 45, 50)
	case 'b':
		return with("KkRnB", 3, 85, 36, 40, 8)
	}
	return board.Put(board.Put(rest, 0, '.'), 9*(1+int(c-'0')), 'R')
}

// done are positions in which both sides do what letters say, red the first one; a dot is the first board again.
func done(script string) []api.Position {
	l := []api.Position{{Cells: rest, Full: 1}}
	for j, c := range []byte(script) {
		cells := rest
		if c != '.' {
			cells = deed(c)
		}
		if c != '.' && j%2 == 1 {
			cells = board.Turn(cells)
		}
		l = append(l, api.Position{Cells: cells, Side: 1 - j%2, Clock: j + 1, Full: 1 + (j+1)/2})
	}
	return l
}

func TestLastOfCycles(t *testing.T) {
	for script, want := range map[string]api.Verdict{
		"0":    goes,
		"01":   goes,
		"0120": goes, // another board, and the other side's
		"c1x2": goes,
		// Idle both.
		"0.":   repeated,
		"012.": repeated,
		"0121": repeated,
		// Red checks, chases, does both; not all along, or not one piece.
		"c.":   loses(0, api.Checking),
		"c1c.": loses(0, api.Checking),
		"x.":   loses(0, api.Chasing),
		"x1x.": loses(0, api.Chasing),
		"x1X.": loses(0, api.Chasing),
		"x1c.": loses(0, api.Chasing),
		"cyx.": loses(0, api.Chasing),
		"x1y.": repeated,
		"c10.": repeated,
		"x10.": repeated,
		"0.c1": goes,
		// Black does.
		"0c1c":   loses(1, api.Checking),
		"0x1x":   loses(1, api.Chasing),
		"0x1c2x": loses(1, api.Chasing),
		"0c1x2c": loses(1, api.Chasing),
		"0c112c": repeated,
		"0x1y2x": repeated,
		// Both do.
		"xxXx":   repeated,
		"xxXyXx": loses(0, api.Chasing),
		"cccc":   repeated,
		"ccxc":   loses(1, api.Checking),
		"xxcx":   loses(0, api.Checking),
		"0cccxc": loses(1, api.Checking),
		// What is done ahead of the earlier one is of no moment.
		"01c1":   loses(0, api.Checking),
		"01x1":   loses(0, api.Chasing),
		"y1x1":   loses(0, api.Chasing),
		"c101":   repeated,
		"010c2c": loses(1, api.Checking),
		// The least earlier one counts, not the last one: since that one red did something else.
		"0.c.":   repeated,
		"x.c.":   loses(0, api.Chasing),
		"x.y.":   repeated,
		"c.c.":   loses(0, api.Checking),
		"0.c.c.": repeated,
		// What is not right comes again, and is neither a check nor a chase.
		"b":    goes,
		"b.":   repeated,
		"b1b":  repeated,
		"c1b.": repeated,
		"cbc.": loses(0, api.Checking),
	} {
		l := done(script)
		wantLast(t, script, l, staying(len(script)), want)
		// A cycle goes ahead of the natural limit, which is there else.
		l[len(script)].Clock = 120
		if want == goes {
			want = natural
		}
		wantLast(t, script+" at clock 120", l, staying(len(script)), want)
		if v := plainLast(l, staying(len(script))); v != want {
			t.Errorf("%s: the plain telling: %v", script, v)
		}
	}
}

func TestLastGoesBackToOrigins(t *testing.T) {
	l, m := done("x1y."), staying(4)
	wantLast(t, "two that are chased", l, m, repeated)
	m[1] = move(40, 50)
	wantLast(t, "one that is chased", l, m, loses(0, api.Chasing))
	// Moves ahead of the earlier one are passed over, those behind it are gone back.
	l, m = done("01x2y1"), staying(6)
	wantLast(t, "two that are chased, later", l, m, repeated)
	m[3] = move(40, 50)
	wantLast(t, "one that is chased, later", l, m, loses(0, api.Chasing))
	m[1] = move(-1, 40)
	wantLast(t, "a move ahead of it all", l, m, loses(0, api.Chasing))
	m[2] = move(-1, 40)
	wantLast(t, "a move from nowhere in it", l, m, repeated)
}

func TestLastOfNothingThatComesAgain(t *testing.T) {
	wantLast(t, "nothing, once", make([]api.Position, 1), nil, goes)
	wantLast(t, "nothing, again", make([]api.Position, 2), staying(1), repeated)
	wantLast(t, "nothing, again and again", make([]api.Position, 9), staying(8), repeated)
	for _, side := range []int{math.MinInt, -1, 2, math.MaxInt} {
		p := api.Position{Cells: mates[0], Side: side, Clock: 120, Full: 1}
		if v := judge.Last([]api.Position{p}, nil); v != natural {
			t.Errorf("P18.2: side %d: %v", side, v)
		}
		if v := judge.Last([]api.Position{p, p}, staying(1)); v != repeated {
			t.Errorf("P18.2: side %d: %v", side, v)
		}
	}
}

// plainLast is told from the chapter's words.
func plainLast(l []api.Position, m []api.Move) api.Verdict {
	if len(l) != len(m)+1 {
		return goes
	}
	last := l[len(l)-1]
	if check.Well(last) == api.OK && len(legal.Moves(last)) == 0 {
		if check.In(last.Cells, last.Side) {
			return loses(last.Side, api.Mate)
		}
		return loses(last.Side, api.Stale)
	}
	for i, p := range l[:len(l)-1] {
		if p.Cells != last.Cells || p.Side != last.Side {
			continue
		}
		red, black := cycle.Class(l[i:], m[i:], 0), cycle.Class(l[i:], m[i:], 1)
		reason := []int{api.NoReason, api.Chasing, api.Checking}[max(red, black)]
		switch {
		case red == black:
			return repeated
		case red > black:
			return loses(0, reason)
		}
		return loses(1, reason)
	}
	if last.Clock == 120 {
		return natural
	}
	return goes
}

// plainPlay is told from the chapter's words, too.
func plainPlay(p api.Position, m []api.Move) (api.Verdict, []api.Position, api.Errno) {
	if e := check.Well(p); e != api.OK {
		return goes, nil, e
	}
	if len(m) > 1024 {
		return goes, nil, api.ErrFull
	}
	l := []api.Position{p}
	for j := range m {
		if plainLast(l, m[:j]) != goes {
			return goes, nil, api.ErrEnd
		}
		if !slices.Contains(legal.Moves(l[j]), m[j]) {
			return goes, nil, api.ErrMove
		}
		q, _, _ := legal.Make(l[j], m[j])
		l = append(l, q)
	}
	return plainLast(l, m), l, api.OK
}

// wantPlay wants what a game comes to: a verdict, or an error; and the positions as they are told plainly.
func wantPlay(t *testing.T, name string, p api.Position, m []api.Move, want api.Verdict, e api.Errno) {
	t.Helper()
	old := slices.Clone(m)
	v, l, f := judge.Play(p, m)
	plain, positions, g := plainPlay(p, m)
	if v != want || f != e || v != plain || f != g || !slices.Equal(l, positions) {
		t.Errorf("P18.3: %s: got %v, %d, want %v, %d (plainly %v, %d)", name, v, f, want, e, plain, g)
	}
	if f != api.OK && len(l) > 0 {
		t.Errorf("R3: %s: %d positions beside error %d", name, len(l), f)
	}
	if f == api.OK && judge.Last(l, m) != v {
		t.Errorf("P18.2: %s: got %v, want %v", name, judge.Last(l, m), v)
	}
	if !slices.Equal(m, old) {
		t.Errorf("R5: %s: the moves are changed", name)
	}
	wantTurned(t, name, p, m)
}

// wantTurned wants the same of a game that is seen from the other side. Full goes on behind black's moves alone, so it isn't held.
func wantTurned(t *testing.T, name string, p api.Position, m []api.Move) {
	t.Helper()
	v, l, e := judge.Play(p, m)
	w, there, f := judge.Play(turned(p), mirrored(m))
	if w != across(v) || f != e || len(there) != len(l) {
		t.Fatalf("P18.4: %s: got %v, %d, from the other side %v, %d", name, v, e, w, f)
	}
	for i := range l {
		q := turned(there[i])
		if q.Cells != l[i].Cells || q.Side != l[i].Side || q.Clock != l[i].Clock {
			t.Errorf("P18.4: %s: position %d: %#v, %#v", name, i, l[i], there[i])
		}
	}
}

func at(p api.Position, clock int) api.Position {
	p.Clock = clock
	return p
}

func then(l []api.Move, more ...api.Move) []api.Move { return append(slices.Clone(l), more...) }

func TestPlay(t *testing.T) {
	mated, wrong := api.Position{Cells: with("Kkrr", 4, 84, 9, 12), Side: 1, Full: 1}, move(-1, 90)
	stuck := api.Position{Cells: with("Kkr", 4, 86, 30), Side: 1, Full: 1}
	for _, c := range []struct {
		name  string
		p     api.Position
		moves []api.Move
		want  api.Verdict
		e     api.Errno
	}{
		{"no moves", start, nil, goes, api.OK},
		{"no moves of black", api.Position{Cells: api.Start, Side: 1, Full: 1}, []api.Move{}, goes, api.OK},
		{"one move", start, fro[:1], goes, api.OK},
		{"a capture, taken again", start, moves(19, 82, 81, 82), goes, api.OK},
		{"all but the last one of a cycle", start, fro[:3], goes, api.OK},
		{"a cycle", start, fro, repeated, api.OK},
		{"a cycle behind a move", start, then(moves(27, 36), mirrored(fro)...), repeated, api.OK},
		{"a move behind a cycle", start, then(fro, fro[0]), goes, api.ErrEnd},
		{"a move behind a cycle that may not be made", start, then(fro, wrong), goes, api.ErrEnd},
		{"a second cycle", start, then(fro, fro...), goes, api.ErrEnd},
		{"checks", checks, checking[:4], goes, api.OK},
		{"checks all along", checks, checking, loses(0, api.Checking), api.OK},
		{"a move behind checks", checks, then(checking, move(85, 86)), goes, api.ErrEnd},
		{"chases, not all along", chases, chasing[:3], goes, api.OK},
		{"chases all along", chases, chasing, loses(0, api.Chasing), api.OK},
		{"a move behind chases", chases, then(chasing, move(54, 36)), goes, api.ErrEnd},
		// Moves that may not be made.
		{"nothing stands there", start, moves(40, 49), goes, api.ErrMove},
		{"black's piece", start, moves(81, 72), goes, api.ErrMove},
		{"red's piece again", start, moves(0, 9, 9, 0), goes, api.ErrMove},
		{"no squares", start, []api.Move{wrong}, goes, api.ErrMove},
		{"squares far away", start, moves(1<<32, 9), goes, api.ErrMove},
		{"the same square", start, moves(0, 0), goes, api.ErrMove},
		{"into check", checks, moves(3, 4), goes, api.ErrMove},
		{"out of check to where it is taken", checks, moves(36, 40, 85, 76), goes, api.ErrMove},
		{"the last one", start, then(fro[:3], wrong), goes, api.ErrMove},
		{"one among others", start, []api.Move{fro[0], wrong, fro[2], fro[3]}, goes, api.ErrMove},
		{"the second one, behind which an end would be", checks, moves(36, 40, 85, 84), goes, api.ErrMove},
		// Mate and stalemate.
		{"mate", mated, moves(9, 0), loses(0, api.Mate), api.OK},
		{"a move behind mate", mated, moves(9, 0, 4, 13), goes, api.ErrEnd},
		{"a move behind mate, of no squares", mated, []api.Move{move(9, 0), wrong}, goes, api.ErrEnd},
		{"mate at the natural limit", at(mated, 119), moves(9, 0), loses(0, api.Mate), api.OK},
		{"stalemate", stuck, moves(30, 12), loses(0, api.Stale), api.OK},
		{"a move behind stalemate", stuck, moves(30, 12, 4, 13), goes, api.ErrEnd},
		{"stalemate at the natural limit", at(stuck, 119), moves(30, 12), loses(0, api.Stale), api.OK},
		{"mate at once", api.Position{Cells: mates[0], Full: 1}, nil, loses(0, api.Mate), api.OK},
		{"a move behind mate at once", api.Position{Cells: mates[0], Full: 1}, []api.Move{stay}, goes, api.ErrEnd},
		{"stalemate at once", api.Position{Cells: stales[0], Full: 1}, nil, loses(0, api.Stale), api.OK},
		{"a move behind stalemate at once", api.Position{Cells: stales[0], Full: 1}, moves(4, 3), goes, api.ErrEnd},
		// The natural limit.
		{"clock 118", at(start, 118), fro[:1], goes, api.OK},
		{"clock 119", at(start, 119), nil, goes, api.OK},
		{"clock 119, one move", at(start, 119), fro[:1], natural, api.OK},
		{"clock 119, two moves", at(start, 119), fro[:2], goes, api.ErrEnd},
		{"clock 119, a capture", at(start, 119), moves(19, 82), goes, api.OK},
		{"clock 118, a capture behind a move", at(start, 118), moves(0, 9, 64, 1), goes, api.OK},
		{"clock 119, a move that may not be made", at(start, 119), []api.Move{wrong}, goes, api.ErrMove},
		{"clock 120", at(start, 120), nil, natural, api.OK},
		{"clock 120, a move", at(start, 120), fro[:1], goes, api.ErrEnd},
		{"clock 120, a capture", at(start, 120), moves(19, 82), goes, api.ErrEnd},
		{"clock 120, a move that may not be made", at(start, 120), []api.Move{wrong}, goes, api.ErrEnd},
		{"a cycle at the limit", at(start, 116), fro, repeated, api.OK},
		{"a cycle that comes too late", at(start, 117), fro, goes, api.ErrEnd},
		{"the limit ahead of a cycle", at(start, 117), fro[:3], natural, api.OK},
		{"checks all along to the limit", at(checks, 115), checking, loses(0, api.Checking), api.OK},
		{"chases all along to the limit", at(chases, 116), chasing, loses(0, api.Chasing), api.OK},
	} {
		wantPlay(t, c.name, c.p, c.moves, c.want, c.e)
	}
}

func TestPlayOfWrongPositions(t *testing.T) {
	facing, attacked, misplaced := with("Kk", 4, 85), with("KkR", 4, 84, 81), with("KkB", 4, 85, 3)
	for p, want := range map[api.Position]api.Errno{
		{}:                                              api.ErrArg,
		{Cells: api.Start}:                              api.ErrArg,
		{Cells: api.Start, Full: -1}:                    api.ErrArg,
		{Cells: api.Start, Full: 10000}:                 api.ErrArg,
		{Cells: api.Start, Full: 1, Clock: -1}:          api.ErrArg,
		{Cells: api.Start, Full: 1, Clock: 121}:         api.ErrArg,
		{Cells: api.Start, Full: 1, Side: -1}:           api.ErrArg,
		{Cells: api.Start, Full: 1, Side: 2}:            api.ErrArg,
		{Cells: api.Start[1:], Full: 1}:                 api.ErrArg,
		{Cells: api.Start + ".", Full: 1}:               api.ErrArg,
		{Cells: mates[0], Clock: 121, Full: 1}:          api.ErrArg,
		{Cells: facing, Side: 2, Full: 1}:               api.ErrArg,
		{Cells: with(""), Full: 1}:                      api.ErrCount,
		{Cells: board.Put(misplaced, 5, 'K'), Full: 1}:  api.ErrCount,
		{Cells: misplaced, Clock: 120, Full: 1}:         api.ErrPlace,
		{Cells: facing, Clock: 120, Full: 1}:            api.ErrFacing,
		{Cells: facing, Side: 1, Full: 1}:               api.ErrFacing,
		{Cells: board.Put(facing, 81, 'R'), Full: 1}:    api.ErrFacing,
		{Cells: attacked, Full: 1}:                      api.ErrCheck,
		{Cells: board.Turn(attacked), Side: 1, Full: 1}: api.ErrCheck,
	} {
		// Whatever the moves are: good ones, wrong ones, too many.
		for _, m := range [][]api.Move{nil, fro, moves(-1, 90), staying(1025), staying(3000)} {
			wantPlay(t, "a wrong position", p, m, goes, want)
		}
	}
}

func TestPlayOfTooManyMoves(t *testing.T) {
	for _, p := range []api.Position{start, checks, at(start, 120), {Cells: mates[0], Full: 1}} {
		wantPlay(t, "1025 moves", p, staying(1025), goes, api.ErrFull)
		wantPlay(t, "1025 good moves", p, slices.Repeat(fro, 257)[:1025], goes, api.ErrFull)
	}
	wantPlay(t, "1024 moves that may not be made", start, staying(1024), goes, api.ErrMove)
	wantPlay(t, "1024 moves behind an end", at(start, 120), staying(1024), goes, api.ErrEnd)
	wantPlay(t, "1024 moves, an end among them", start, slices.Repeat(fro, 256), goes, api.ErrEnd)
}

// long is a game from the start of so many plies that goes on: no position comes again, and now and then something is taken.
func long(t *testing.T, plies int) []api.Move {
	t.Helper()
	r := random(88172645463325252)
	l, m := []api.Position{start}, []api.Move(nil)
	for len(m) < plies {
		p := l[len(m)]
		may := legal.Moves(p)
		if taking := legal.Captures(p); p.Clock > 100 && len(taking) > 0 {
			may = taking
		}
		quiet := func(n api.Move) bool { return (p.Cells[n.To] == '.') == (p.Clock <= 100) }
		i := r.below(len(may))
		for range may {
			q, _, _ := legal.Make(p, may[i])
			if quiet(may[i]) && legal.End(q) == api.NoReason && cycle.Earlier(append(l, q)) < 0 {
				break
			}
			i = (i + 1) % len(may)
		}
		q, _, e := legal.Make(p, may[i])
		if e != api.OK || q.Clock == api.MaxClock {
			t.Fatalf("no long game: %d at %#v", e, q)
		}
		l, m = append(l, q), append(m, may[i])
	}
	return m
}

func TestPlayOfMostMoves(t *testing.T) {
	m := long(t, 1025)
	for _, n := range []int{1023, 1024} {
		wantPlay(t, "a long game", start, m[:n], goes, api.OK)
		if _, l, _ := judge.Play(start, m[:n]); len(l) != n+1 {
			t.Errorf("P18.3: %d positions behind %d moves", len(l), n)
		}
	}
	wantPlay(t, "one more", start, m, goes, api.ErrFull)
	wantPlay(t, "the last one may not be made", start, then(m[:1023], move(-1, 90)), goes, api.ErrMove)
	wantPlay(t, "the last one but one may not be made", start, then(m[:1022], stay, stay), goes, api.ErrMove)
	wantPlay(t, "one more, of no squares", start, then(m[:1024], move(-1, 90)), goes, api.ErrFull)
}

func TestPlayToTheNaturalLimit(t *testing.T) {
	// Both generals and two chariots go about, so that no position comes again in 120 plies.
	p := api.Position{Cells: with("KARkar", 4, 13, 0, 85, 76, 89), Full: 1}
	l, m := []api.Position{p}, []api.Move(nil)
	for len(m) < 120 {
		may := legal.Moves(p)
		i := slices.IndexFunc(may, func(n api.Move) bool {
			q, _, _ := legal.Make(p, n)
			return q.Clock > 0 && legal.End(q) == api.NoReason && cycle.Earlier(append(l, q)) < 0
		})
		if i < 0 {
			t.Fatalf("no such game: %#v", p)
		}
		p, _, _ = legal.Make(p, may[i])
		l, m = append(l, p), append(m, may[i])
	}
	wantPlay(t, "119 plies", l[0], m[:119], goes, api.OK)
	wantPlay(t, "120 plies", l[0], m, natural, api.OK)
	wantPlay(t, "121 plies", l[0], then(m, legal.Moves(p)[0]), goes, api.ErrEnd)
	wantPlay(t, "121 plies, the last one of no squares", l[0], then(m, move(-1, 90)), goes, api.ErrEnd)
}

func TestListsAreNew(t *testing.T) {
	// There is room behind the moves: nothing is to be seen of it, and nothing is put there.
	m := then(fro, checking...)
	_, l, _ := judge.Play(start, m[:3:len(m)])
	_, again, _ := judge.Play(start, m[:3:len(m)])
	for i := range l {
		l[i] = api.Position{Cells: "x"}
	}
	_ = append(l[:1], start)
	if !slices.Equal(m, then(fro, checking...)) || again[0] != start || len(again) != 4 {
		t.Errorf("R5: %v, %v", m, again)
	}
	_, want, _ := plainPlay(start, fro[:3])
	if !slices.Equal(again, want) {
		t.Errorf("R5: %v", again)
	}
	if v := judge.Last(again[:4:4], m[:3]); v != goes {
		t.Errorf("P18.2: %v", v)
	}
}

// scattered are positions with few pieces that are right.
func scattered(n int) []api.Position {
	var l []api.Position
	r := random(2862933555777941757)
	for len(l) < n {
		cells := with("")
		for i, c := range []byte("KkRNCrncPAab") {
			points := place.Points(c)
			to := points[r.below(len(points))]
			if cells[to] == '.' && (i < 2 || r.below(3) == 0) {
				cells = board.Put(cells, to, c)
			}
		}
		p := api.Position{Cells: cells, Side: r.below(2), Clock: r.below(121), Full: 1 + r.below(300)}
		if check.Well(p) == api.OK {
			l = append(l, p)
		}
	}
	return l
}

// worth is how much a player wants a position behind a move: an end, checks, chases, what was there already.
func worth(l []api.Position, q api.Position) int {
	ply, _ := chase.Of(q)
	sum := 8*len(ply.Chased) + 12*len(check.Attackers(q.Cells, check.General(q.Cells, q.Side), 1-q.Side))
	if legal.End(q) != api.NoReason {
		sum += 100
	}
	if cycle.Earlier(append(slices.Clone(l), q)) >= 0 {
		sum += 5
	}
	return sum
}

// keen is the one of a few moves that is worth most.
func keen(l []api.Position, m []api.Move, r *random) api.Move {
	p := l[len(m)]
	may := legal.Moves(p)
	best, most := api.Move{}, -1
	for range 1 + r.below(12) {
		n := may[r.below(len(may))]
		if len(m) >= 2 && r.below(3) == 0 {
			n = move(m[len(m)-2].To, m[len(m)-2].From) // back to where it came from
		}
		if q, _, e := legal.Make(p, n); e == api.OK && worth(l, q) > most {
			best, most = n, worth(l, q)
		}
	}
	if most < 0 {
		return may[0]
	}
	return best
}

// TestManyGames plays games till they end, and holds each part of them against the plain telling.
func TestManyGames(t *testing.T) {
	r := random(88172645463325252)
	seen := map[api.Verdict]int{}
	for _, p := range scattered(600) {
		l, m := []api.Position{p}, []api.Move(nil)
		v := plainLast(l, m)
		for most := 4 + r.below(30); v == goes && len(m) < most; {
			n := keen(l, m, &r)
			q, _, _ := legal.Make(l[len(m)], n)
			l, m = append(l, q), append(m, n)
			v = plainLast(l, m)
			if got := judge.Last(l, m); got != v {
				t.Errorf("P18.2: %v: got %v, want %v", m, got, v)
			}
		}
		seen[v]++
		wantPlay(t, "a game", p, m, v, api.OK)
		wantCut(t, p, l, m)
		next := append(legal.Moves(l[len(m)]), stay)[0]
		if v != goes {
			wantPlay(t, "a move behind a game", p, then(m, next), goes, api.ErrEnd)
		}
	}
	wanted := []api.Verdict{goes, repeated, natural}
	for _, reason := range []int{api.Mate, api.Stale, api.Checking, api.Chasing} {
		wanted = append(wanted, loses(0, reason), loses(1, reason))
	}
	for _, v := range wanted {
		if seen[v] < 3 {
			t.Errorf("P18: too little is seen of %v: %v", v, seen)
		}
	}
}

// wantCut wants that a game goes on till its last move, wherever it is cut short.
func wantCut(t *testing.T, p api.Position, l []api.Position, m []api.Move) {
	t.Helper()
	for n := range m {
		v, positions, e := judge.Play(p, m[:n])
		if v != goes || e != api.OK || !slices.Equal(positions, l[:n+1]) {
			t.Errorf("P18.4: %v, cut to %d: got %v, %d", m, n, v, e)
		}
	}
}

// TestWrongMovesAmongMany puts a move into games that may not be made there.
func TestWrongMovesAmongMany(t *testing.T) {
	r := random(1442695040888963407)
	for range 60 {
		l, m := []api.Position{start}, []api.Move(nil)
		for range 20 {
			may := legal.Moves(l[len(m)])
			n := may[r.below(len(may))]
			q, _, _ := legal.Make(l[len(m)], n)
			if judge.Last(append(slices.Clone(l), q), then(m, n)) != goes {
				break
			}
			l, m = append(l, q), append(m, n)
		}
		i := r.below(len(m))
		wrong := move(r.below(92)-1, r.below(92)-1)
		if legal.Is(l[i], wrong) {
			continue
		}
		broken := slices.Clone(m)
		broken[i] = wrong
		wantPlay(t, "a wrong move", start, broken, goes, api.ErrMove)
	}
}
