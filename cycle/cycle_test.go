package cycle_test

import (
	"math"
	"slices"
	"strings"
	"testing"

	"riverbank/api"
	"riverbank/board"
	"riverbank/chase"
	"riverbank/check"
	"riverbank/cycle"
	"riverbank/legal"
	"riverbank/place"
)

var (
	start = api.Position{Cells: api.Start, Full: 1}
	stay  = move(0, 0) // leads nowhere else
	rest  = with("KkRr", 3, 85, 0, 89)
)

// with is an empty board on which these pieces stand, each on its square.
func with(pieces string, squares ...int) string {
	cells := []byte(strings.Repeat(".", api.Squares))
	for i, n := range squares {
		cells[n] = pieces[i]
	}
	return string(cells)
}

func move(from int, to int) api.Move { return api.Move{From: from, To: to} }

// moves are several, each one's From and To.
func moves(squares ...int) []api.Move {
	var l []api.Move
	for pair := range slices.Chunk(squares, 2) {
		l = append(l, move(pair[0], pair[1]))
	}
	return l
}

// random is a row of numbers that is the same each time.
type random uint64

// below is its next one, from 0 on.
func (r *random) below(n int) int {
	*r ^= *r << 13
	*r ^= *r >> 7
	*r ^= *r << 17
	return int(*r % random(n))
}

// nowhere are numbers that are no squares.
func nowhere() []int {
	return []int{math.MinInt, math.MinInt + 1, -1 << 32, -90, -9, -1, 90, 91, 180, 256, 1 << 32, 1<<32 + 18, math.MaxInt}
}

// nobody are numbers that are no sides.
func nobody() []int {
	return []int{math.MinInt, math.MinInt + 1, -1 << 32, -2, -1, 2, 3, 256, 1 << 32, 1<<32 + 1, math.MaxInt}
}

// turned are positions from the other side, mirrored the moves between them.
func turned(l []api.Position) []api.Position {
	var there []api.Position
	for _, p := range l {
		there = append(there, api.Position{Cells: board.Turn(p.Cells), Side: 1 - p.Side, Clock: p.Clock, Full: p.Full})
	}
	return there
}

func mirrored(l []api.Move) []api.Move {
	var there []api.Move
	for _, m := range l {
		there = append(there, move(89-m.From, 89-m.To))
	}
	return there
}

// played is a position, and those behind moves that may be made.
func played(t *testing.T, p api.Position, l []api.Move) []api.Position {
	t.Helper()
	all := []api.Position{p}
	for _, m := range l {
		q, _, e := legal.Make(p, m)
		if e != api.OK {
			t.Fatalf("%v at %#v: %d", m, p, e)
		}
		all, p = append(all, q), q
	}
	return all
}

func TestSame(t *testing.T) {
	other := board.Put(board.Put(api.Start, 0, '.'), 9, 'R')
	for _, c := range []struct {
		a, b api.Position
		want bool
	}{
		{start, start, true},
		{start, api.Position{Cells: strings.Clone(api.Start), Full: 1}, true},
		// Another clock and another number are of no moment, wrong ones neither.
		{start, api.Position{Cells: api.Start, Clock: 7, Full: 1}, true},
		{start, api.Position{Cells: api.Start, Clock: 120, Full: 1}, true},
		{start, api.Position{Cells: api.Start, Full: 9999}, true},
		{start, api.Position{Cells: api.Start, Clock: math.MinInt, Full: math.MaxInt}, true},
		{start, api.Position{Cells: api.Start}, true},
		// The other side is to move, or it is another board.
		{start, api.Position{Cells: api.Start, Side: 1, Full: 1}, false},
		{start, api.Position{Cells: api.Start, Side: -1, Full: 1}, false},
		{start, api.Position{Cells: other, Full: 1}, false},
		{start, api.Position{Cells: other, Side: 1, Full: 1}, false},
		{start, api.Position{Cells: board.Put(api.Start, 89, '.'), Full: 1}, false},
		{start, api.Position{Cells: board.Put(api.Start, 0, '.'), Full: 1}, false},
		{start, api.Position{Cells: api.Start[:89], Full: 1}, false},
		{start, api.Position{Cells: api.Start + ".", Full: 1}, false},
		{start, api.Position{Full: 1}, false},
		// What is no position is the same as it is, too.
		{api.Position{}, api.Position{}, true},
		{api.Position{}, api.Position{Clock: -5, Full: 3}, true},
		{api.Position{}, api.Position{Side: 1}, false},
		{api.Position{Cells: "x", Side: 9}, api.Position{Cells: "x", Side: 9}, true},
		{api.Position{Cells: "x", Side: 9}, api.Position{Cells: "X", Side: 9}, false},
		{api.Position{Cells: "x", Side: math.MinInt}, api.Position{Cells: "x", Side: math.MaxInt}, false},
	} {
		if cycle.Same(c.a, c.b) != c.want || cycle.Same(c.b, c.a) != c.want {
			t.Errorf("P17.1: %#v and %#v: not %v", c.a, c.b, c.want)
		}
	}
}

func TestSameOfEachSquare(t *testing.T) {
	for n := range api.Squares {
		for _, c := range []byte(".KABNRCPkabnrcp") {
			p := api.Position{Cells: board.Put(api.Start, n, c), Full: 1}
			if cycle.Same(start, p) != (api.Start[n] == c) {
				t.Errorf("P17.1: %c on %d", c, n)
			}
		}
	}
}

// letters are positions of one letter each, great ones red's, small ones black's; each has a clock of its own.
func letters(s string) []api.Position {
	var l []api.Position
	for i, c := range []byte(s) {
		p := api.Position{Cells: strings.ToUpper(string(c)), Clock: i, Full: 99 - i}
		if c >= 'a' {
			p.Side = 1
		}
		l = append(l, p)
	}
	return l
}

func TestEarlier(t *testing.T) {
	for s, want := range map[string]int{
		"":       -1,
		"A":      -1,
		"AA":     0,
		"AB":     -1,
		"ABA":    0,
		"ABB":    1,
		"AAB":    -1, // two that are the same, but not as the last one
		"ABAB":   1,
		"AAAA":   0, // several: the least one
		"BABCAA": 1,
		"BAACBA": 1,
		"Aa":     -1, // the other side
		"aA":     -1,
		"aAa":    0,
		"AaAaBA": 0,
		"abABb":  1,
		"ABCDEF": -1,
	} {
		if n := cycle.Earlier(letters(s)); n != want {
			t.Errorf("P17.1: %q: got %d, want %d", s, n, want)
		}
	}
	if n := cycle.Earlier([]api.Position{}); n != -1 {
		t.Errorf("P17.1: of none: %d", n)
	}
}

func TestEarlierOfManyLists(t *testing.T) {
	r := random(88172645463325252)
	seen := map[bool]int{}
	for range 2000 {
		s := make([]byte, 1+r.below(9))
		for i := range s {
			s[i] = "ABCDabcd"[r.below(8)]
		}
		want := strings.IndexByte(string(s[:len(s)-1]), s[len(s)-1])
		seen[want >= 0]++
		if n := cycle.Earlier(letters(string(s))); n != want {
			t.Errorf("P17.1: %q: got %d, want %d", s, n, want)
		}
	}
	if seen[true] < 500 || seen[false] < 500 {
		t.Errorf("P17.1: too little is seen: %v", seen)
	}
}

func TestOrigin(t *testing.T) {
	for _, c := range []struct {
		moves   []api.Move
		n, want int
	}{
		{nil, 40, 40},
		{[]api.Move{}, 40, 40},
		// A square that no move leads to, one that is left alone among them.
		{moves(1, 20), 40, 40},
		{moves(1, 20), 1, 1},
		{moves(1, 20), 20, 1},
		{moves(1, 20, 64, 66), 20, 1},
		{moves(64, 66, 1, 20), 20, 1},
		// On and on; from the last one to the first one, not the other way.
		{moves(1, 20, 20, 41, 41, 60), 60, 1},
		{moves(1, 20, 20, 41, 41, 60), 41, 1},
		{moves(41, 60, 20, 41, 1, 20), 60, 41},
		{moves(41, 60, 20, 41, 1, 20), 20, 1},
		// Several moves lead to a square: the last one counts, and what it came from goes on.
		{moves(1, 2, 2, 3, 5, 2), 2, 5},
		{moves(1, 2, 2, 3, 5, 2), 3, 1},
		{moves(7, 40, 8, 40, 9, 40), 40, 9},
		{moves(7, 8, 8, 40, 9, 8, 40, 41), 41, 7},
		{moves(7, 8, 8, 40, 9, 8, 40, 41), 8, 9},
		// To and fro, and not at all.
		{moves(0, 9, 9, 0), 0, 0},
		{moves(0, 9, 9, 0), 9, 0}, // nothing stands there now, but what stood there came from 0
		{moves(0, 9, 9, 0, 0, 9), 9, 0},
		{moves(0, 9, 81, 72, 9, 0, 72, 81), 81, 81},
		{moves(40, 40, 40, 40), 40, 40},
		// The edges of the board.
		{moves(0, 89), 89, 0},
		{moves(89, 0), 0, 89},
		// Numbers that are no squares are gone back as others are.
		{moves(1, 20), -1, -1},
		{moves(1, 20), 90, 90},
		{moves(5, 90), 90, 5},
		{moves(-1, 5), 5, -1},
		{moves(math.MinInt, math.MaxInt), math.MaxInt, math.MinInt},
		{moves(1<<32+5, 20), 20, 1<<32 + 5},
		{moves(7, 1<<32+5), 5, 5},
	} {
		if n := cycle.Origin(c.moves, c.n); n != c.want {
			t.Errorf("P17.2: %v, %d: got %d, want %d", c.moves, c.n, n, c.want)
		}
	}
	for _, n := range nowhere() {
		if got := cycle.Origin(moves(0, 9, 81, 72), n); got != n {
			t.Errorf("P17.2: %d: got %d", n, got)
		}
	}
}

// plainOrigin is told the other way: by what is carried along from the first move on.
func plainOrigin(l []api.Move, n int) int {
	from := map[int]int{}
	origin := func(n int) int {
		if o, ok := from[n]; ok {
			return o
		}
		return n
	}
	for _, m := range l {
		from[m.To] = origin(m.From)
	}
	return origin(n)
}

func TestOriginOfManyMoves(t *testing.T) {
	r := random(1442695040888963407)
	gone := 0
	for range 3000 {
		var l []api.Move
		for range r.below(9) {
			l = append(l, move(r.below(7)-1, r.below(7)-1))
		}
		for n := -2; n < 8; n++ {
			want := plainOrigin(l, n)
			if got := cycle.Origin(l, n); got != want {
				t.Errorf("P17.2: %v, %d: got %d, want %d", l, n, got, want)
			}
			gone += truth(want != n)
		}
	}
	if gone < 5000 {
		t.Errorf("P17.2: too little is seen: %d", gone)
	}
}

func truth(b bool) int {
	if b {
		return 1
	}
	return 0
}

// TestOriginOfPieces goes back through games: where a piece stood, it stands on the first board.
func TestOriginOfPieces(t *testing.T) {
	r := random(2862933555777941757)
	for range 4 {
		p, l := start, []api.Move(nil)
		for range 80 {
			may := legal.Moves(p)
			if len(may) == 0 {
				break
			}
			m := may[r.below(len(may))]
			p, _, _ = legal.Make(p, m)
			l = append(l, m)
		}
		seen := map[int]int{}
		for n := range api.Squares {
			if p.Cells[n] == '.' {
				continue
			}
			o := cycle.Origin(l, n)
			seen[o]++
			if seen[o] > 1 || api.Start[o] != p.Cells[n] {
				t.Errorf("P17.2: %v: %c on %d was on %d", l, p.Cells[n], n, o)
			}
		}
	}
}

// wantClass wants what both sides did, from both sides.
func wantClass(t *testing.T, name string, l []api.Position, m []api.Move, red int, black int) {
	t.Helper()
	oldL, oldM := slices.Clone(l), slices.Clone(m)
	if a, b := cycle.Class(l, m, api.Red), cycle.Class(l, m, api.Black); a != red || b != black {
		t.Errorf("P17.3: %s: got %d, %d, want %d, %d", name, a, b, red, black)
	}
	there, back := turned(l), mirrored(m)
	if a, b := cycle.Class(there, back, api.Red), cycle.Class(there, back, api.Black); a != black || b != red {
		t.Errorf("P7: %s, from the other side: got %d, %d, want %d, %d", name, a, b, black, red)
	}
	if !slices.Equal(l, oldL) || !slices.Equal(m, oldM) {
		t.Errorf("R5: %s: what was handed in is changed", name)
	}
}

func TestClasses(t *testing.T) {
	if cycle.Idle != 0 || cycle.Chase != 1 || cycle.Check != 2 {
		t.Errorf("P17.3: %d, %d, %d", cycle.Idle, cycle.Chase, cycle.Check)
	}
}

func TestClassOfGames(t *testing.T) {
	const idle, chased, checked = cycle.Idle, cycle.Chase, cycle.Check
	for _, c := range []struct {
		name       string
		cells      string
		side       int
		moves      []api.Move
		red, black int
	}{
		{"no moves", api.Start, 0, nil, idle, idle},
		{"to and fro", api.Start, 0, moves(0, 9, 81, 72, 9, 0, 72, 81), idle, idle},
		// A chariot gives check from file to file.
		{"one check", with("KkR", 3, 85, 36), 0, moves(36, 40), checked, idle},
		{"one check and away", with("KkR", 3, 85, 36), 0, moves(36, 40, 85, 86), checked, idle},
		{"all checks", with("KkR", 3, 85, 36), 0, moves(36, 40, 85, 86, 40, 41, 86, 85, 41, 40), checked, idle},
		{"check, and one move that is idle", with("KkR", 3, 85, 36), 0, moves(36, 40, 85, 86, 40, 39, 86, 85, 39, 40), idle, idle},
		{"one that is idle, and check", with("KkR", 3, 85, 36), 0, moves(36, 37, 85, 86, 37, 41, 86, 85, 41, 40), idle, idle},
		{"black alone, away from a check", with("KkR", 3, 85, 40), 1, moves(85, 86), idle, idle},
		{"black away, check, away, check", with("KkR", 3, 85, 40), 1, moves(85, 86, 40, 41, 86, 85, 41, 40), checked, idle},
		// A chariot follows a horse that goes to and fro; one that stays; or it stays, and the horse goes along its rank.
		{"a horse that flees", with("KkRn", 3, 85, 54, 38), 0, moves(54, 36, 38, 57, 36, 54, 57, 38, 54, 36), chased, idle},
		{"a horse that fled once", with("KkRn", 3, 85, 54, 38), 0, moves(54, 36, 38, 57), chased, idle},
		{"a horse that stays", with("KkRn", 3, 85, 36, 40), 0, moves(36, 37, 85, 86, 37, 36, 86, 85), chased, idle},
		{"a horse that is chased by what stays", with("KkRn", 3, 85, 36, 40), 0, moves(3, 12, 85, 86, 12, 3, 86, 85), chased, idle},
		{"a chariot that follows a cannon", with("KkRc", 3, 85, 36, 50), 0, moves(36, 45, 50, 41, 45, 36, 41, 50), chased, idle},
		{"a guarded horse", with("KkRnr", 3, 85, 36, 40, 58), 0, moves(36, 37, 85, 86, 37, 36, 86, 85), idle, idle},
		{"a pawn at home", with("KkRp", 3, 85, 54, 58), 0, moves(54, 55, 85, 86, 55, 54, 86, 85), idle, idle},
		// Two are chased by turns; and one of them all along, by another chariot.
		{"two by turns", with("KkRnc", 3, 85, 45, 40, 53), 0, moves(45, 36, 85, 86, 36, 45, 86, 85), idle, idle},
		{"two by turns, one of them always", with("KkRnccR", 3, 85, 45, 40, 53, 26, 18), 0, moves(45, 36, 85, 86, 36, 45, 86, 85), chased, idle},
		{"a cannon that flees", with("KkRcc", 3, 85, 36, 40, 67), 0, moves(36, 37, 40, 13, 37, 10, 67, 40), chased, idle},
		{"another one comes to where it stood", with("KkRcc", 3, 85, 36, 40, 67), 0, moves(36, 37, 40, 13, 37, 10, 67, 40, 10, 37), idle, idle},
		// Checks among chases.
		{"check and chase", with("KkRn", 3, 85, 36, 44), 0, moves(36, 40, 85, 86, 40, 39, 86, 85, 39, 40), chased, idle},
		{"check and chase of two", with("KkRnc", 3, 85, 36, 44, 54), 0, moves(36, 40, 85, 86, 40, 39, 86, 85, 39, 40, 85, 86, 40, 58), idle, idle},
		{"check, chase, idle", with("KkRn", 3, 85, 36, 44), 0, moves(36, 40, 85, 86, 40, 39, 86, 85, 39, 48), idle, idle},
		// Both sides.
		{"both chase", with("KkRnNr", 3, 85, 37, 40, 54, 59), 0, moves(3, 12, 85, 86, 12, 3, 86, 85), chased, chased},
	} {
		l := played(t, api.Position{Cells: c.cells, Side: c.side, Full: 1}, c.moves)
		wantClass(t, c.name, l, c.moves, c.red, c.black)
		if a, b := plainClass(l, c.moves, 0), plainClass(l, c.moves, 1); a != c.red || b != c.black {
			t.Errorf("%s: the plain telling: %d, %d", c.name, a, b)
		}
	}
}

// plainClass is told from the chapter's words: each square counts how many of the moves chased what came from there.
func plainClass(l []api.Position, m []api.Move, side int) int {
	if len(l) != len(m)+1 {
		return cycle.Idle
	}
	all, checks := 0, 0
	var chases [api.Squares]int
	for j := range m {
		if l[j].Side != side {
			continue
		}
		all++
		ply, e := chase.Of(l[j+1])
		if e == api.OK && ply.Check {
			checks++
			continue
		}
		for n := range chases {
			chases[n] += truth(slices.ContainsFunc(ply.Chased, func(c int) bool { return plainOrigin(m[:j+1], c) == n }))
		}
	}
	switch {
	case all == 0:
		return cycle.Idle
	case all == checks:
		return cycle.Check
	case slices.Max(chases[:]) == all-checks:
		return cycle.Chase
	}
	return cycle.Idle
}

// deed is a board on which red, that has just moved, does what a letter says.
func deed(c byte) string {
	switch c {
	case 'c':
		return with("KkR", 3, 85, 40)
	case 'x':
		return with("KkRn", 3, 85, 36, 40)
	case 'y':
		return with("KkRn", 3, 85, 45, 50)
	case 'z':
		return with("KkRRnn", 3, 85, 36, 45, 40, 50)
	case 'f':
		return with("KkRn", 4, 85, 36, 39) // generals that face one another
	case 'e':
		return with("KkRr", 3, 84, 40, 30) // its own general is attacked
	case 'k':
		return with("kRn", 85, 36, 40)
	case 'b':
		return with("KkRnB", 3, 85, 36, 40, 8)
	case 'a':
		return with("KkRn", 3, 85, 36, 40)[:89]
	}
	return rest
}

// done are positions in which both sides do what letters say, red the first one.
func done(script string) []api.Position {
	l := []api.Position{{Cells: rest, Full: 1}}
	for j, c := range []byte(script) {
		cells := deed(c)
		if j%2 == 1 {
			cells = board.Turn(cells)
		}
		l = append(l, api.Position{Cells: cells, Side: 1 - j%2, Full: 1})
	}
	return l
}

// staying are moves that lead nowhere, but for some of them.
func staying(n int, other map[int]api.Move) []api.Move {
	l := make([]api.Move, n)
	for i := range l {
		l[i] = stay
		if m, ok := other[i]; ok {
			l[i] = m
		}
	}
	return l
}

func TestDeeds(t *testing.T) {
	for c, want := range map[byte]chase.Ply{'.': {}, 'c': {Check: true}, 'x': {Chased: []int{40}}, 'y': {Chased: []int{50}}, 'z': {Chased: []int{40, 50}}} {
		got, e := chase.Of(api.Position{Cells: deed(c), Side: 1, Full: 1})
		if e != api.OK || got.Check != want.Check || !slices.Equal(got.Chased, want.Chased) {
			t.Errorf("%c: %v, %d", c, got, e)
		}
	}
	for c, want := range map[byte]api.Errno{'f': api.ErrFacing, 'e': api.ErrCheck, 'k': api.ErrCount, 'b': api.ErrPlace, 'a': api.ErrArg} {
		if e := check.Well(api.Position{Cells: deed(c), Side: 1, Full: 1}); e != want {
			t.Errorf("%c: %d", c, e)
		}
	}
}

func TestClassOfDeeds(t *testing.T) {
	const idle, chased, checked = cycle.Idle, cycle.Chase, cycle.Check
	for script, want := range map[string][2]int{
		"":     {idle, idle},
		".":    {idle, idle},
		"..":   {idle, idle},
		"....": {idle, idle},
		// Checks: all moves, some, none; of both sides.
		"c":      {checked, idle},
		"c.":     {checked, idle},
		"c.c.c.": {checked, idle},
		"c.c...": {idle, idle},
		"c...c.": {idle, idle},
		"..c.c.": {idle, idle},
		".c.c":   {idle, checked},
		".c..":   {idle, idle},
		"cccc":   {checked, checked},
		"ccc.":   {checked, idle},
		// One that is chased all along, two by turns, three sets that have no square in common though any two have.
		"x":      {chased, idle},
		"z":      {chased, idle},
		"x.x.x":  {chased, idle},
		"z.z.":   {chased, idle},
		"x.z.x.": {chased, idle},
		"z.x.z.": {chased, idle},
		"z.y.z":  {chased, idle},
		"x.y.":   {idle, idle},
		"x.y.x.": {idle, idle},
		"x.z.y.": {idle, idle},
		"z.x.y.": {idle, idle},
		"x.x.y.": {idle, idle},
		"x...x.": {idle, idle},
		"..x.x.": {idle, idle},
		"x.x...": {idle, idle},
		".x.x":   {idle, chased},
		".x.y":   {idle, idle},
		"xxxx":   {chased, chased},
		"xyxy":   {chased, chased},
		"xxyx":   {idle, chased},
		// Checks and chases.
		"c.x.":     {chased, idle},
		"x.c.":     {chased, idle},
		"c.x.c.":   {chased, idle},
		"x.c.x.":   {chased, idle},
		"c.x.c.x.": {chased, idle},
		"c.x.y.":   {idle, idle},
		"x.c.y.":   {idle, idle},
		"x.y.c.":   {idle, idle},
		"c.x...":   {idle, idle},
		"c...x.":   {idle, idle},
		"x.c.z":    {chased, idle},
		"cxcx":     {checked, chased},
		"xcxc":     {chased, checked},
		"ccxc":     {chased, checked},
		"ccx.":     {chased, idle},
		// A position behind a move that is not right: neither a check, nor anything chased.
		"f":      {idle, idle},
		"e":      {idle, idle},
		"k":      {idle, idle},
		"b":      {idle, idle},
		"a":      {idle, idle},
		"c.f.":   {idle, idle},
		"e.c.":   {idle, idle},
		"c.k.c.": {idle, idle},
		"b.x.":   {idle, idle},
		"x.a.x.": {idle, idle},
		"x.f":    {idle, idle},
		"f.x":    {idle, idle},
		// It is of no moment ahead of a move, or behind the other side's.
		"cfcf": {checked, idle},
		"xexk": {chased, idle},
		"fxax": {idle, chased},
		"bckc": {idle, checked},
	} {
		l, m := done(script), staying(len(script), nil)
		wantClass(t, script, l, m, want[0], want[1])
		if a, b := plainClass(l, m, 0), plainClass(l, m, 1); a != want[0] || b != want[1] {
			t.Errorf("%s: the plain telling: %d, %d", script, a, b)
		}
	}
}

func TestClassGoesBackToOrigins(t *testing.T) {
	const idle, chased = cycle.Idle, cycle.Chase
	for _, c := range []struct {
		script string
		moves  map[int]api.Move
		red    int
	}{
		// What is chased moves, by a move of its own side, or by whatever leads there.
		{"x.y.", map[int]api.Move{1: move(40, 50)}, chased},
		{"x.y.x.", map[int]api.Move{1: move(40, 50), 3: move(50, 40)}, chased},
		{"x.y.x.", map[int]api.Move{1: move(40, 50), 3: move(60, 40)}, idle},
		{"x.y.", map[int]api.Move{1: move(50, 40)}, idle},
		{"x.y.", map[int]api.Move{1: move(40, 49)}, idle},
		{"x.z.y", map[int]api.Move{3: move(40, 50)}, chased},
		{"z.y.", map[int]api.Move{1: move(40, 50)}, chased},
		{"z.x.", map[int]api.Move{1: move(50, 40)}, chased},
		// Another one comes to where it stood.
		{"x.x.", map[int]api.Move{1: move(21, 40)}, idle},
		{"x.x.x.", map[int]api.Move{3: move(21, 40)}, idle},
		{"x.c.x.", map[int]api.Move{1: move(21, 40)}, idle},
		{"x.x.", map[int]api.Move{1: move(21, 41)}, chased},
		// Through the moves up to that one, with it; ahead of all that chase both came from there.
		{"x.y.", map[int]api.Move{2: move(40, 50)}, chased},
		{"x.x.", map[int]api.Move{2: move(21, 40)}, idle},
		{"x.x.", map[int]api.Move{0: move(21, 40)}, chased},
		{"x.y.", map[int]api.Move{0: move(50, 40)}, chased}, // on 50 there is what came to 40 still: gone back, both are of 50
		{"x.x.", map[int]api.Move{3: move(21, 40)}, chased},
		{"x.y.", map[int]api.Move{3: move(40, 50)}, idle},
		{"c.x.", map[int]api.Move{0: move(0, 40)}, chased},
		{"x", map[int]api.Move{0: move(0, 40)}, chased},
		{"x", map[int]api.Move{0: move(89, 40)}, chased},
		{"x", map[int]api.Move{0: move(40, 40)}, chased},
		// A number that is no square is no square that is chased all along.
		{"x", map[int]api.Move{0: move(-1, 40)}, idle},
		{"x", map[int]api.Move{0: move(90, 40)}, idle},
		{"x", map[int]api.Move{0: move(1<<32+40, 40)}, idle},
		{"x.x.", map[int]api.Move{0: move(90, 40)}, idle},
		{"c.x.", map[int]api.Move{1: move(-1, 40)}, idle},
		{"z", map[int]api.Move{0: move(90, 40)}, chased},
		{"z", map[int]api.Move{0: move(90, 50)}, chased},
		{"x", map[int]api.Move{0: move(-1, 90)}, chased},
	} {
		l, m := done(c.script), staying(len(c.script), c.moves)
		wantClass(t, c.script, l, m, c.red, idle)
		if a := plainClass(l, m, 0); a != c.red {
			t.Errorf("%s: the plain telling: %d", c.script, a)
		}
	}
}

func TestClassOfListsThatDoNotFit(t *testing.T) {
	for _, script := range []string{"c", "x", "c.c.c.", "x.x.x.", "cxcx"} {
		l, m := done(script), staying(len(script), nil)
		for side := range 2 {
			for _, got := range []int{
				cycle.Class(l[:len(m)], m, side),
				cycle.Class(l[1:], m, side),
				cycle.Class(append(slices.Clone(l), l[0]), m, side),
				cycle.Class(l, m[1:], side),
				cycle.Class(l, append(slices.Clone(m), stay), side),
				cycle.Class(l, nil, side),
				cycle.Class(nil, m, side),
				cycle.Class(nil, nil, side),
				cycle.Class(l[:1], nil, side),
			} {
				if got != cycle.Idle {
					t.Errorf("P17.3: %s, %d: got %d", script, side, got)
				}
			}
		}
	}
}

func TestClassOfOtherSides(t *testing.T) {
	for _, script := range []string{"", "cccc", "xxxx", "cxcx"} {
		for _, side := range nobody() {
			if got := cycle.Class(done(script), staying(len(script), nil), side); got != cycle.Idle {
				t.Errorf("P17.3: %q, side %d: got %d", script, side, got)
			}
		}
	}
	// Whose move it was is what l tells, even where that is no side.
	for _, side := range nobody() {
		for script, want := range map[string]int{"c": cycle.Check, "c.c.": cycle.Check, "x.x": cycle.Chase, "x.y": cycle.Idle} {
			l, m := done(script), staying(len(script), nil)
			for j := 0; j < len(l); j += 2 {
				l[j].Side = side
			}
			if got := cycle.Class(l, m, side); got != want {
				t.Errorf("P17.3: %s, side %d: got %d", script, side, got)
			}
			if got := cycle.Class(l, m, 0); got != cycle.Idle {
				t.Errorf("P17.3: %s, side %d has red's moves: got %d", script, side, got)
			}
		}
	}
}

func TestClassOfPositionsThatAreNone(t *testing.T) {
	// Each of a position's numbers is wrong in turn: a check and a chase are none then.
	for _, c := range []byte("cx") {
		for _, p := range []api.Position{{Clock: -1, Full: 1}, {Clock: 121, Full: 1}, {}, {Full: 10000}, {Clock: math.MinInt, Full: math.MaxInt}} {
			p.Cells, p.Side = deed(c), 1
			wantClass(t, string(c), []api.Position{{Cells: rest, Full: 1}, p}, staying(1, nil), cycle.Idle, cycle.Idle)
		}
		// Ahead of the move nothing needs to be right.
		want := map[byte]int{'c': cycle.Check, 'x': cycle.Chase}[c]
		for _, p := range []api.Position{{}, {Cells: "x", Clock: -1}, {Cells: deed('f'), Full: 1}} {
			if got := cycle.Class([]api.Position{p, done(string(c))[1]}, staying(1, nil), 0); got != want {
				t.Errorf("P17.3: behind %#v: got %d", p, got)
			}
		}
	}
	if got := cycle.Class(make([]api.Position, 9), make([]api.Move, 8), 0); got != cycle.Idle {
		t.Errorf("P17.3: of nothing: got %d", got)
	}
}

// TestClassOfManyDeeds holds what random deeds and moves come to against the plain telling.
func TestClassOfManyDeeds(t *testing.T) {
	r := random(88172645463325252)
	squares := []int{40, 50, 49, 39, 21, 90}
	var seen [3]int
	for i := range 3000 {
		letters := []string{"cxyz", "czx", "zzc", "xz.", "cfkeba.x", "c"}[i%6]
		script := make([]byte, r.below(9))
		for j := range script {
			script[j] = letters[r.below(len(letters))]
		}
		other := map[int]api.Move{}
		for j := range script {
			if r.below(3) == 0 {
				other[j] = move(squares[r.below(len(squares))], squares[r.below(len(squares))])
			}
		}
		l, m := done(string(script)), staying(len(script), other)
		if r.below(8) == 0 {
			l[r.below(len(l))].Side = r.below(3)
		}
		for side := range 3 {
			want := plainClass(l, m, side)
			if got := cycle.Class(l, m, side); got != want {
				t.Errorf("P17.3: %s, %v, side %d: got %d, want %d", script, m, side, got, want)
			}
			seen[want]++
		}
	}
	for class, n := range seen {
		if n < 300 {
			t.Errorf("P17.3: too little is seen of class %d: %d", class, n)
		}
	}
}

// TestClassIsOfOneSideAlone changes what the other side's moves come to.
func TestClassIsOfOneSideAlone(t *testing.T) {
	r := random(1442695040888963407)
	for _, script := range []string{"c.c.", "x.x.x.", "x.y.", ".c.c.c", ".x.x", "xcxc", "cxcx", "zyxz"} {
		for side := range 2 {
			l, m := done(script), staying(len(script), nil)
			want := cycle.Class(l, m, side)
			for j := range m {
				if l[j].Side != side {
					l[j+1].Cells = deed(".cxyzfekba"[r.below(10)])
				}
			}
			if got := cycle.Class(l, m, side); got != want {
				t.Errorf("P17.4: %s, side %d: got %d, want %d", script, side, got, want)
			}
		}
	}
}

// scattered are positions with few pieces that are right.
func scattered(n int) []api.Position {
	var l []api.Position
	r := random(2862933555777941757)
	for len(l) < n {
		cells := with("")
		for i, c := range []byte("KkRNCrncPAab") {
			points := place.Points(c)
			at := points[r.below(len(points))]
			if cells[at] == '.' && (i < 2 || r.below(2) == 0) {
				cells = board.Put(cells, at, c)
			}
		}
		p := api.Position{Cells: cells, Side: r.below(2), Full: 1}
		if check.Well(p) == api.OK {
			l = append(l, p)
		}
	}
	return l
}

// keen is one of some moves: where there are such, one that gives check or chases something.
func keen(p api.Position, may []api.Move, r *random) api.Move {
	for range 6 {
		m := may[r.below(len(may))]
		q, _, _ := legal.Make(p, m)
		if ply, _ := chase.Of(q); ply.Check || len(ply.Chased) > 0 {
			return m
		}
	}
	return may[r.below(len(may))]
}

// TestClassOfManyGames holds parts of games in which much is chased against the plain telling.
func TestClassOfManyGames(t *testing.T) {
	r := random(88172645463325252)
	var seen [3]int
	for _, p := range scattered(250) {
		l, m := []api.Position{p}, []api.Move(nil)
		for range 16 {
			may := legal.Moves(p)
			if len(may) == 0 {
				break
			}
			n := keen(p, may, &r)
			p, _, _ = legal.Make(p, n)
			l, m = append(l, p), append(m, n)
			from := r.below(len(l))
			red, black := plainClass(l[from:], m[from:], 0), plainClass(l[from:], m[from:], 1)
			wantClass(t, "a game", l[from:], m[from:], red, black)
			seen[red]++
			seen[black]++
		}
	}
	for class, n := range seen {
		if n < 200 {
			t.Errorf("P17.3: too little is seen of class %d: %d", class, n)
		}
	}
}
