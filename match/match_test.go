package match_test

import (
	"math"
	"slices"
	"strings"
	"testing"

	"riverbank/api"
	"riverbank/board"
	"riverbank/check"
	"riverbank/judge"
	"riverbank/legal"
	"riverbank/match"
	"riverbank/place"
)

var (
	start = api.Position{Cells: api.Start, Full: 1}
	goes  = api.Verdict{}
	wrong = move(-1, 90)

	// Games that end.
	fro      = moves(0, 9, 81, 72, 9, 0, 72, 81)
	checks   = api.Position{Cells: with("KkR", 3, 85, 36), Full: 1}
	checking = moves(36, 40, 85, 86, 40, 41, 86, 85, 41, 40)
	chases   = api.Position{Cells: with("KkRn", 3, 85, 54, 38), Full: 1}
	chasing  = moves(54, 36, 38, 57, 36, 54, 57, 38)
	mate     = api.Position{Cells: with("Kkrr", 4, 84, 12, 0), Full: 1}
	stale    = api.Position{Cells: with("Kkr", 4, 86, 12), Full: 1}
	limit    = api.Position{Cells: api.Start, Clock: 120, Full: 61}
)

// with is an empty board on which these pieces stand, each on its square.
func with(pieces string, squares ...int) string {
	cells := []byte(strings.Repeat(".", api.Squares))
	for i, n := range squares {
		cells[n] = pieces[i]
	}
	return string(cells)
}

func move(from int, to int) api.Move { return api.Move{From: from, To: to} }

// moves are several, each one's From and To.
func moves(squares ...int) []api.Move {
	var l []api.Move
	for pair := range slices.Chunk(squares, 2) {
		l = append(l, move(pair[0], pair[1]))
	}
	return l
}

// at is a position at a clock.
func at(p api.Position, clock int) api.Position {
	p.Clock = clock
	return p
}

func turned(p api.Position) api.Position {
	return api.Position{Cells: board.Turn(p.Cells), Side: 1 - p.Side, Clock: p.Clock, Full: p.Full}
}

func mirrored(l []api.Move) []api.Move {
	var there []api.Move
	for _, m := range l {
		there = append(there, move(89-m.From, 89-m.To))
	}
	return there
}

// backwards is a list from its end on.
func backwards(l []api.Move) []api.Move {
	l = slices.Clone(l)
	slices.Reverse(l)
	return l
}

// random is a row of numbers that is the same each time.
type random uint64

// below is its next one, from 0 on.
func (r *random) below(n int) int {
	*r ^= *r << 13
	*r ^= *r >> 7
	*r ^= *r << 17
	return int(*r % random(n))
}

// told is what a match must tell, kept in the plainest way: what it was set to, and what was banned.
type told struct {
	p      api.Position
	played []api.Move
	banned []api.Move
}

// verdict, and the position where it is.
func (o told) verdict() (api.Verdict, api.Position) {
	v, l, _ := judge.Play(o.p, o.played)
	if len(l) == 0 {
		return v, api.Position{}
	}
	return v, l[len(l)-1]
}

// sorted are the moves that may be made now and are banned, or are not.
func (o told) sorted(banned bool) []api.Move {
	_, now := o.verdict()
	var l []api.Move
	for _, m := range legal.Moves(now) {
		if slices.Contains(o.banned, m) == banned {
			l = append(l, m)
		}
	}
	return l
}

func (o told) moves() []api.Move {
	if v, _ := o.verdict(); v.Kind != api.Goes {
		return nil
	}
	return o.sorted(false)
}

// wants wants all that a match tells.
func wants(t *testing.T, name string, m *match.Match, o told) {
	t.Helper()
	v, now := o.verdict()
	if got := m.Now(); got != now {
		t.Errorf("P19.3: %s: now: got %#v, want %#v", name, got, now)
	}
	if got := m.Verdict(); got != v {
		t.Errorf("P19.3: %s: verdict: got %v, want %v", name, got, v)
	}
	if got := m.Plies(); got != len(o.played) {
		t.Errorf("P19.3: %s: plies: got %d, want %d", name, got, len(o.played))
	}
	if got := m.Moves(); !slices.Equal(got, o.moves()) {
		t.Errorf("P19.3: %s: moves: got %v, want %v", name, got, o.moves())
	}
	if got := m.Banned(); !slices.Equal(got, o.sorted(true)) {
		t.Errorf("P19.3: %s: banned: got %v, want %v", name, got, o.sorted(true))
	}
}

// set is a match that was set up so, and what it must tell.
func set(t *testing.T, p api.Position, l []api.Move) (*match.Match, told) {
	t.Helper()
	m := match.New()
	if e := m.Set(p, l); e != api.OK {
		t.Fatalf("P19.2: set up: error %d", e)
	}
	return m, told{p: p, played: l}
}

// bans bans some moves, which must be well, and tells what the match must tell then.
func (o told) bans(t *testing.T, m *match.Match, l []api.Move) told {
	t.Helper()
	if e := m.Ban(l); e != api.OK {
		t.Errorf("P19.2: ban %v: error %d", l, e)
	}
	o.banned = l
	return o
}

func TestNew(t *testing.T) {
	m := match.New()
	if m == nil {
		t.Fatal("P19.1: nil")
	}
	if m.Now() != start || m.Verdict() != goes || m.Plies() != 0 || len(m.Banned()) != 0 || len(m.Moves()) != 44 {
		t.Errorf("P19.1: %v, %v, %d, %v, %v", m.Now(), m.Verdict(), m.Plies(), m.Banned(), m.Moves())
	}
	wants(t, "new", m, told{p: start})
}

func TestNewIsNew(t *testing.T) {
	m, other := match.New(), match.New()
	if m == other {
		t.Fatal("P19.1: two are one")
	}
	first := m.Moves()[:3]
	o := told{p: start}.bans(t, m, first)
	wants(t, "one of two", m, o)
	wants(t, "the other one", other, told{p: start})
	other.Set(checks, checking)
	wants(t, "one of two, behind a Set of the other", m, o)
	wants(t, "a third one", match.New(), told{p: start})
}

func TestNil(t *testing.T) {
	var m *match.Match
	for range 2 {
		if m.Now() != (api.Position{}) || m.Verdict() != goes || m.Plies() != 0 || len(m.Moves()) != 0 || len(m.Banned()) != 0 {
			t.Errorf("P19.1: nil: %v, %v, %d", m.Now(), m.Verdict(), m.Plies())
		}
		for _, l := range [][]api.Move{nil, {}, fro[:1], {wrong}} {
			if e := m.Ban(l); e != api.ErrArg {
				t.Errorf("P19.1: nil: Ban: error %d", e)
			}
			for _, p := range []api.Position{start, mate, limit, {}} {
				if e := m.Set(p, l); e != api.ErrArg {
					t.Errorf("P19.1: nil: Set: error %d", e)
				}
			}
		}
	}
}

func TestZeroValue(t *testing.T) {
	var m match.Match
	if m.Now() != (api.Position{}) || m.Verdict() != goes || m.Plies() != 0 || len(m.Moves()) != 0 || len(m.Banned()) != 0 {
		t.Errorf("P19.3: a zero value: %v, %v, %d", m.Now(), m.Verdict(), m.Plies())
	}
	if e := m.Ban(nil); e != api.OK {
		t.Errorf("P19.2: a zero value: Ban of nothing: error %d", e)
	}
	if e := m.Ban(fro[:1]); e != api.ErrMove {
		t.Errorf("P19.2: a zero value: Ban: error %d", e)
	}
	if e := m.Set(api.Position{}, nil); e != api.ErrArg {
		t.Errorf("P19.2: a zero value: Set of nothing: error %d", e)
	}
	if e := m.Set(start, fro[:1]); e != api.OK {
		t.Errorf("P19.2: a zero value: Set: error %d", e)
	}
	o := told{p: start, played: fro[:1]}
	wants(t, "a zero value that is set", &m, o)
	wants(t, "a zero value that is set, with bans", &m, o.bans(t, &m, fro[1:2]))
}

// games are positions and moves from there: some go on, others have ended.
var games = []struct {
	name  string
	p     api.Position
	moves []api.Move
	want  api.Verdict
	left  bool // some moves may be made yet
}{
	{"the start", start, nil, goes, true},
	{"one move", start, fro[:1], goes, true},
	{"three moves", start, fro[:3], goes, true},
	{"a capture", start, moves(19, 82), goes, true},
	{"black's move", api.Position{Cells: api.Start, Side: 1, Full: 1}, nil, goes, true},
	{"clock 119", at(start, 119), nil, goes, true},
	{"full 9999", api.Position{Cells: api.Start, Clock: 119, Side: 1, Full: 9999}, moves(64, 1), goes, true},
	{"few pieces", checks, nil, goes, true},
	{"in check", checks, moves(36, 40), goes, true},
	{"mate", mate, nil, api.Verdict{Kind: api.RedLoses, Reason: api.Mate}, false},
	{"mate behind a move", api.Position{Cells: with("Kkrr", 4, 84, 12, 9), Side: 1, Full: 1}, moves(9, 0), api.Verdict{Kind: api.RedLoses, Reason: api.Mate}, false},
	{"mate at the natural limit", at(mate, 120), nil, api.Verdict{Kind: api.RedLoses, Reason: api.Mate}, false},
	{"stalemate", stale, nil, api.Verdict{Kind: api.RedLoses, Reason: api.Stale}, false},
	{"stalemate behind a move", api.Position{Cells: with("Kkr", 4, 86, 30), Side: 1, Full: 1}, moves(30, 12), api.Verdict{Kind: api.RedLoses, Reason: api.Stale}, false},
	{"a position that comes again", start, fro, api.Verdict{Kind: api.Draw, Reason: api.Repeating}, true},
	{"checks all along", checks, checking, api.Verdict{Kind: api.RedLoses, Reason: api.Checking}, true},
	{"chases all along", chases, chasing, api.Verdict{Kind: api.RedLoses, Reason: api.Chasing}, true},
	{"the natural limit", limit, nil, api.Verdict{Kind: api.Draw, Reason: api.Natural}, true},
	{"the natural limit behind a move", at(start, 119), fro[:1], api.Verdict{Kind: api.Draw, Reason: api.Natural}, true},
}

func TestSet(t *testing.T) {
	m := match.New()
	for _, c := range games {
		for _, o := range []told{{p: c.p, played: c.moves}, {p: turned(c.p), played: mirrored(c.moves)}} {
			p, old := o.p, slices.Clone(o.played)
			if e := m.Set(o.p, o.played); e != api.OK {
				t.Errorf("P19.2: %s: error %d", c.name, e)
			}
			wants(t, c.name, m, o)
			wants(t, c.name+", told again", m, o)
			if o.p != p || !slices.Equal(o.played, old) {
				t.Errorf("R5: %s: what was handed in is changed", c.name)
			}
		}
		if v := m.Verdict(); v.Reason != c.want.Reason {
			t.Errorf("P7: %s: from the other side: got %v, want %v", c.name, v, c.want)
		}
		m.Set(c.p, c.moves)
		if m.Verdict() != c.want || m.Plies() != len(c.moves) {
			t.Errorf("P19.3: %s: got %v, %d, want %v", c.name, m.Verdict(), m.Plies(), c.want)
		}
		if on := c.want == goes; len(m.Moves()) > 0 != on || len(legal.Moves(m.Now())) > 0 != c.left {
			t.Errorf("P19.3: %s: moves: %v", c.name, m.Moves())
		}
	}
}

func TestSetOfClockAndFull(t *testing.T) {
	m, _ := set(t, api.Position{Cells: api.Start, Side: 1, Clock: 7, Full: 30}, moves(64, 1, 0, 1))
	if p := m.Now(); p.Side != 1 || p.Clock != 0 || p.Full != 31 || p.Cells[1] != 'R' || p.Cells[64] != '.' {
		t.Errorf("P19.3: %#v", p)
	}
	m, _ = set(t, start, fro[:3])
	if p := m.Now(); p != (api.Position{Cells: board.Put(board.Put(api.Start, 81, '.'), 72, 'r'), Side: 1, Clock: 3, Full: 2}) {
		t.Errorf("P19.3: %#v", p)
	}
}

// TestSetAgain sets matches up one behind the other, each with something banned ahead.
func TestSetAgain(t *testing.T) {
	m := match.New()
	for _, c := range games {
		o := told{p: c.p, played: c.moves}
		for _, ahead := range games {
			was := told{p: ahead.p, played: ahead.moves}
			m.Set(ahead.p, ahead.moves)
			_, now := was.verdict()
			may := legal.Moves(now)
			wants(t, ahead.name+", with bans", m, was.bans(t, m, may[:min(3, len(may))]))
			if e := m.Set(c.p, c.moves); e != api.OK {
				t.Errorf("P19.2: %s behind %s: error %d", c.name, ahead.name, e)
			}
			wants(t, c.name+" behind "+ahead.name, m, o)
			if len(m.Banned()) != 0 {
				t.Errorf("P19.2: %s behind %s: banned: %v", c.name, ahead.name, m.Banned())
			}
		}
		// The same once more: nothing is banned.
		_, now := o.verdict()
		may := legal.Moves(now)
		o.bans(t, m, may[:min(1, len(may))])
		m.Set(c.p, c.moves)
		wants(t, c.name+" once more", m, o)
	}
}

// refused are what a match can't be set to.
var refused = []struct {
	name  string
	p     api.Position
	moves []api.Move
	e     api.Errno
}{
	{"nothing", api.Position{}, nil, api.ErrArg},
	{"full 0", api.Position{Cells: api.Start}, nil, api.ErrArg},
	{"clock 121", at(start, 121), nil, api.ErrArg},
	{"side 2", api.Position{Cells: api.Start, Side: 2, Full: 1}, nil, api.ErrArg},
	{"side -1", api.Position{Cells: api.Start, Side: -1, Full: 1}, fro, api.ErrArg},
	{"89 squares", api.Position{Cells: api.Start[1:], Full: 1}, fro, api.ErrArg},
	{"no pieces", api.Position{Cells: with(""), Full: 1}, nil, api.ErrCount},
	{"two generals of a side", api.Position{Cells: with("KKk", 3, 4, 85), Full: 1}, nil, api.ErrCount},
	{"an elephant on a wrong square", api.Position{Cells: with("KkB", 4, 85, 3), Full: 1}, fro, api.ErrPlace},
	{"generals that face one another", api.Position{Cells: with("Kk", 4, 85), Full: 1}, nil, api.ErrFacing},
	{"a general that may be taken", api.Position{Cells: with("KkR", 4, 84, 81), Full: 1}, nil, api.ErrCheck},
	{"a wrong position, too many moves", at(start, 121), make([]api.Move, 1025), api.ErrArg},
	{"1025 moves", start, slices.Repeat(fro, 257)[:1025], api.ErrFull},
	{"1025 moves, none of which may be made", start, make([]api.Move, 1025), api.ErrFull},
	{"1025 moves behind an end", limit, make([]api.Move, 1025), api.ErrFull},
	{"1024 moves, none of which may be made", start, make([]api.Move, 1024), api.ErrMove},
	{"no squares", start, []api.Move{wrong}, api.ErrMove},
	{"squares far away", start, []api.Move{move(math.MinInt, math.MaxInt)}, api.ErrMove},
	{"black's move", start, fro[1:], api.ErrMove},
	{"the last one may not be made", start, slices.Concat(fro[:3], moves(0, 0)), api.ErrMove},
	{"into check", checks, moves(3, 4), api.ErrMove},
	{"a move behind mate", mate, moves(4, 3), api.ErrEnd},
	{"a move behind stalemate", stale, moves(4, 3), api.ErrEnd},
	{"a move behind a position that comes again", start, slices.Concat(fro, fro[:1]), api.ErrEnd},
	{"a wrong move behind a position that comes again", start, slices.Concat(fro, []api.Move{wrong}), api.ErrEnd},
	{"a move behind checks", checks, slices.Concat(checking, moves(85, 86)), api.ErrEnd},
	{"a move behind chases", chases, slices.Concat(chasing, moves(54, 36)), api.ErrEnd},
	{"a move at the natural limit", limit, fro[:1], api.ErrEnd},
	{"1024 moves, an end among them", start, slices.Repeat(fro, 256), api.ErrEnd},
}

func TestSetThatIsRefused(t *testing.T) {
	for _, ahead := range games {
		m, o := set(t, ahead.p, ahead.moves)
		_, now := o.verdict()
		may := legal.Moves(now)
		o = o.bans(t, m, may[:min(3, len(may))])
		for _, c := range refused {
			old := slices.Clone(c.moves)
			if e := m.Set(c.p, c.moves); e != c.e {
				t.Errorf("P19.2: %s: got error %d, want %d", c.name, e, c.e)
			}
			if _, _, e := judge.Play(c.p, c.moves); e != c.e {
				t.Errorf("P19.2: %s: judge's: got error %d, want %d", c.name, e, c.e)
			}
			if !slices.Equal(c.moves, old) {
				t.Errorf("R5: %s: what was handed in is changed", c.name)
			}
		}
		wants(t, ahead.name+", behind what is refused", m, o)
	}
	for _, c := range refused {
		m, o := set(t, start, fro[:2])
		o = o.bans(t, m, moves(9, 0, 9, 10, 1, 20))
		m.Set(c.p, c.moves)
		wants(t, "three bans, behind "+c.name, m, o)
		m.Ban([]api.Move{wrong})
		wants(t, "three bans, behind a wrong one", m, o)
	}
}

func TestBan(t *testing.T) {
	all := legal.Moves(start)
	for _, c := range []struct {
		name string
		l    []api.Move
	}{
		{"nil", nil},
		{"no moves", []api.Move{}},
		{"the first one", all[:1]},
		{"the last one", all[43:]},
		{"one in the middle", all[20:21]},
		{"some", all[10:17]},
		{"some, backwards", backwards(all[10:17])},
		{"one twice", []api.Move{all[5], all[5]}},
		{"two, each twice, backwards", []api.Move{all[30], all[4], all[30], all[4]}},
		{"a capture", moves(19, 82)},
		{"all", all},
		{"all, backwards", backwards(all)},
		{"all, a hundred times", slices.Repeat(all, 100)},
		{"all but the first one", all[1:]},
	} {
		m, o := set(t, start, nil)
		old := slices.Clone(c.l)
		o = o.bans(t, m, c.l)
		wants(t, c.name, m, o)
		if !slices.Equal(c.l, old) {
			t.Errorf("R5: %s: what was handed in is changed", c.name)
		}
		if len(m.Moves())+len(m.Banned()) != 44 {
			t.Errorf("P19.3: %s: %d and %d", c.name, len(m.Moves()), len(m.Banned()))
		}
		// Behind others just these are banned; the same again is the same.
		o = o.bans(t, m, all[7:25])
		o = o.bans(t, m, c.l)
		o = o.bans(t, m, c.l)
		wants(t, c.name+", behind other bans", m, o)
		o = o.bans(t, m, nil)
		wants(t, c.name+", and nothing behind that", m, o)
	}
}

func TestBanOfAll(t *testing.T) {
	m, o := set(t, start, nil)
	o = o.bans(t, m, backwards(legal.Moves(start)))
	if len(m.Moves()) != 0 || !slices.Equal(m.Banned(), legal.Moves(start)) {
		t.Errorf("P19.3: %v, %v", m.Moves(), m.Banned())
	}
	if m.Verdict() != goes || m.Now() != start {
		t.Errorf("P19.3: the game does not go on: %v", m.Verdict())
	}
	wants(t, "all are banned", m, o)
	wants(t, "all but one are banned", m, o.bans(t, m, legal.Moves(start)[1:]))
	if l := m.Moves(); len(l) != 1 || l[0] != legal.Moves(start)[0] {
		t.Errorf("P19.3: %v", l)
	}
}

func TestBanThatIsRefused(t *testing.T) {
	good := legal.Moves(start)[3:6]
	standing := legal.Moves(start)[10:13]
	for _, bad := range moves(0, 0, 0, 1, 40, 49, 81, 72, -1, 90, 90, 0, 0, 90, 0, -1, 1<<32, 9, 0, 1<<32+9, 4, 4, 1, 11, math.MinInt, 9, 9, math.MaxInt) {
		if legal.Is(start, bad) {
			t.Fatalf("%v may be made", bad)
		}
		for i := range 4 {
			l := slices.Insert(slices.Clone(good), i, bad)
			for _, ahead := range [][]api.Move{nil, standing, good} {
				m, o := set(t, start, nil)
				o = o.bans(t, m, ahead)
				for range 2 {
					if e := m.Ban(l); e != api.ErrMove {
						t.Errorf("P19.2: %v: got error %d", l, e)
					}
				}
				wants(t, "a ban that is refused", m, o)
			}
		}
	}
}

// TestBanOfWhatMayBeMade bans each move from a square to a square, in some games.
func TestBanOfWhatMayBeMade(t *testing.T) {
	for _, c := range games {
		m, o := set(t, c.p, c.moves)
		_, now := o.verdict()
		for from := -1; from <= 90; from++ {
			for to := -1; to <= 90; to++ {
				x := move(from, to)
				e := m.Ban([]api.Move{x})
				if legal.Is(now, x) != (e == api.OK) || e != api.OK && e != api.ErrMove {
					t.Errorf("P19.2: %s: ban %v: got error %d", c.name, x, e)
				}
				if e == api.OK && !slices.Equal(m.Banned(), []api.Move{x}) {
					t.Errorf("P19.2: %s: ban %v: got %v", c.name, x, m.Banned())
				}
			}
		}
	}
}

func TestBanBehindAnEnd(t *testing.T) {
	seen := 0
	for _, c := range games {
		if c.want == goes {
			continue
		}
		seen++
		m, o := set(t, c.p, c.moves)
		_, now := o.verdict()
		for _, l := range [][]api.Move{nil, {}, legal.Moves(now), backwards(legal.Moves(now))} {
			o = o.bans(t, m, l)
			wants(t, c.name+", with bans", m, o)
			if len(m.Moves()) != 0 {
				t.Errorf("P19.3: %s: %v", c.name, m.Moves())
			}
			if e := m.Ban(append(slices.Clone(l), wrong)); e != api.ErrMove {
				t.Errorf("P19.2: %s: got error %d", c.name, e)
			}
			wants(t, c.name+", with bans, behind one that is refused", m, o)
		}
	}
	if seen < 8 {
		t.Errorf("too few have ended: %d", seen)
	}
}

// TestWhatIsChangedByTheCaller changes all that was answered, and all that was handed in.
func TestWhatIsChangedByTheCaller(t *testing.T) {
	played, list := slices.Clone(fro[:2]), backwards(legal.Moves(start)[8:12])
	m := match.New()
	m.Ban(list)
	o := told{p: start, banned: slices.Clone(list)}
	spoil(list)
	wants(t, "a ban whose list is changed", m, o)
	for range 3 {
		spoil(m.Moves())
		spoil(m.Banned())
		wants(t, "answers that are changed", m, o)
	}
	one, other := m.Banned(), m.Banned()
	spoil(one)
	if !slices.Equal(other, o.sorted(true)) {
		t.Errorf("R5: two answers are one list: %v", other)
	}
	m.Set(start, played)
	spoil(played)
	wants(t, "a match whose moves are changed", m, told{p: start, played: fro[:2]})
	o = told{p: start, played: fro[:2]}.bans(t, m, legal.Moves(m.Now()))
	last := m.Banned()
	m.Ban(legal.Moves(m.Now())[:2])
	if !slices.Equal(last, o.sorted(true)) {
		t.Errorf("R5: an answer is changed later: %v", last)
	}
}

// spoil changes a list, and what room there is behind it.
func spoil(l []api.Move) {
	l = l[:cap(l)]
	for i := range l {
		l[i] = wrong
	}
}

// long is a game from the start of so many plies that goes on: no board comes again, and what can be taken late is taken late.
func long(t *testing.T, plies int) []api.Move {
	t.Helper()
	r := random(88172645463325252)
	seen := map[string]bool{api.Start: true}
	p, l := start, []api.Move(nil)
	for len(l) < plies {
		var quiet, taking []api.Move
		for _, x := range legal.Moves(p) {
			q, _, _ := legal.Make(p, x)
			if seen[q.Cells] || legal.End(q) != api.NoReason {
				continue
			}
			if q.Clock == 0 {
				taking = append(taking, x)
			} else {
				quiet = append(quiet, x)
			}
		}
		may := quiet
		if len(taking) > 0 && (p.Clock > 100 || len(quiet) == 0) {
			may = taking
		}
		if len(may) == 0 {
			t.Fatalf("no long game: %d plies, %#v", len(l), p)
		}
		x := may[r.below(len(may))]
		p, _, _ = legal.Make(p, x)
		if p.Clock == api.MaxClock {
			t.Fatalf("no long game: %d plies, %#v", len(l), p)
		}
		seen[p.Cells] = true
		l = append(l, x)
	}
	return l
}

func TestMostMoves(t *testing.T) {
	l := long(t, 1025)
	m, o := set(t, start, l[:1024])
	wants(t, "1024 moves", m, o)
	if m.Plies() != 1024 || m.Verdict() != goes || len(m.Moves()) == 0 {
		t.Errorf("P19.3: %d, %v, %v", m.Plies(), m.Verdict(), m.Moves())
	}
	o = o.bans(t, m, m.Moves()[:1])
	if e := m.Set(start, l); e != api.ErrFull {
		t.Errorf("P19.2: 1025 moves: error %d", e)
	}
	wants(t, "1024 moves, behind 1025", m, o)
	if e := m.Set(start, append(l[:1023:1023], wrong)); e != api.ErrMove {
		t.Errorf("P19.2: 1024 moves, the last one of no squares: error %d", e)
	}
	wants(t, "1024 moves, behind wrong ones", m, o)
	if e := m.Set(start, l[:1]); e != api.OK {
		t.Errorf("P19.2: one move: error %d", e)
	}
	wants(t, "one move, behind 1024", m, told{p: start, played: l[:1]})
}

// scattered are positions with few pieces that are right.
func scattered(n int) []api.Position {
	var l []api.Position
	r := random(2862933555777941757)
	for len(l) < n {
		cells := with("")
		for i, c := range []byte("KkRNCrncPAab") {
			points := place.Points(c)
			to := points[r.below(len(points))]
			if cells[to] == '.' && (i < 2 || r.below(3) == 0) {
				cells = board.Put(cells, to, c)
			}
		}
		p := api.Position{Cells: cells, Side: r.below(2), Clock: r.below(121), Full: 1 + r.below(300)}
		if check.Well(p) == api.OK {
			l = append(l, p)
		}
	}
	return l
}

// some are a few of a position's moves, in any order, some of them twice; now and then one that may not be made.
func some(p api.Position, r *random) []api.Move {
	may := legal.Moves(p)
	var l []api.Move
	for range r.below(6) {
		if len(may) == 0 || r.below(12) == 0 {
			l = append(l, move(r.below(92)-1, r.below(92)-1))
			continue
		}
		l = append(l, may[r.below(len(may))])
	}
	return l
}

// walk are a few moves from a position, whatever the verdict is; now and then one that may not be made.
func walk(p api.Position, r *random) []api.Move {
	var l []api.Move
	for range r.below(9) {
		may := legal.Moves(p)
		if len(may) == 0 || r.below(30) == 0 {
			return append(l, move(r.below(90), r.below(90)))
		}
		x := may[r.below(len(may))]
		if n := len(l); n >= 2 && r.below(2) == 0 && legal.Is(p, move(l[n-2].To, l[n-2].From)) {
			x = move(l[n-2].To, l[n-2].From)
		}
		p, _, _ = legal.Make(p, x)
		l = append(l, x)
	}
	return l
}

// TestManyMatches sets matches up and bans moves, one behind the other, from both sides.
func TestManyMatches(t *testing.T) {
	r := random(88172645463325252)
	m, there := match.New(), match.New()
	o := told{p: start}
	turn := told{p: turned(start)}
	there.Set(turn.p, nil)
	errors, verdicts := map[api.Errno]int{}, map[int]int{}
	positions := scattered(150)
	for range 700 {
		_, now := o.verdict()
		e, f, want := api.OK, api.OK, api.OK
		if r.below(3) == 0 {
			p := positions[r.below(len(positions))]
			if r.below(8) == 0 {
				p.Full = r.below(2) * 10000
			}
			l := walk(p, &r)
			if c := games[r.below(len(games))]; r.below(3) == 0 {
				p, l = c.p, c.moves
				if r.below(2) == 0 {
					p, l = turned(p), mirrored(l)
				}
			}
			e, f = m.Set(p, l), there.Set(turned(p), mirrored(l))
			if _, _, want = judge.Play(p, l); want == api.OK {
				o, turn = told{p: p, played: l}, told{p: turned(p), played: mirrored(l)}
			}
		} else {
			l := some(now, &r)
			e, f = m.Ban(l), there.Ban(mirrored(l))
			if slices.ContainsFunc(l, func(x api.Move) bool { return !slices.Contains(legal.Moves(now), x) }) {
				want = api.ErrMove
			} else {
				o.banned, turn.banned = l, mirrored(l)
			}
		}
		if e != want || f != want {
			t.Errorf("P19.2: got errors %d, %d, want %d", e, f, want)
		}
		wants(t, "a match of many", m, o)
		wants(t, "a match of many, from the other side", there, turn)
		errors[e]++
		verdicts[m.Verdict().Kind]++
	}
	for _, e := range []api.Errno{api.OK, api.ErrArg, api.ErrMove, api.ErrEnd} {
		if errors[e] < 5 {
			t.Errorf("too little is seen of error %d: %v", e, errors)
		}
	}
	for v := range 4 {
		if verdicts[v] < 5 {
			t.Errorf("too little is seen of verdict %d: %v", v, verdicts)
		}
	}
}
