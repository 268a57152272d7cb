package iccs_test

import (
	"math"
	"slices"
	"strings"
	"testing"

	"riverbank/api"
	"riverbank/board"
	"riverbank/check"
	"riverbank/iccs"
	"riverbank/legal"
)

const (
	files = "abcdefghi"
	great = "ABCDEFGHI"
	ranks = "0123456789"
)

var start = api.Position{Cells: api.Start, Full: 1}

// with is an empty board on which these pieces stand, each on its square.
func with(pieces string, squares ...int) string {
	cells := []byte(strings.Repeat(".", 90))
	for i, n := range squares {
		cells[n] = pieces[i]
	}
	return string(cells)
}

// random is a row of numbers that is the same each time.
type random uint64

// below is its next one, from 0 on.
func (r *random) below(n int) int {
	*r ^= *r << 13
	*r ^= *r >> 7
	*r ^= *r << 17
	return int(*r % random(n))
}

// square is a square's text, with that letter of its files.
func square(letters string, n int) string {
	return letters[n%9:n%9+1] + ranks[n/9:n/9+1]
}

// nowhere are numbers that are no squares.
func nowhere() []int {
	return []int{math.MinInt, math.MinInt + 1, -1 << 32, -256, -91, -90, -10, -9, -1, 90, 91, 99, 255, 256, 1 << 32, 1<<32 + 18, math.MaxInt - 9, math.MaxInt}
}

func wantMove(t *testing.T, s string, want api.Move) {
	t.Helper()
	if m, e := iccs.Parse(s); m != want || e != api.OK {
		t.Errorf("P12.1: %q: got %v, %d, want %v", s, m, e, want)
	}
}

func wantNoMove(t *testing.T, s string) {
	t.Helper()
	if m, e := iccs.Parse(s); m != (api.Move{}) || e != api.ErrForm {
		t.Errorf("P12.1: %q: got %v, %d", s, m, e)
	}
}

func wantText(t *testing.T, l []api.Move, want string) {
	t.Helper()
	if s := iccs.Text(l); s != want {
		t.Errorf("P12.2: %v: got %q, want %q", l, s, want)
	}
}

func wantLine(t *testing.T, p api.Position, s string, moves []api.Move, behind api.Position) {
	t.Helper()
	if l, q, e := iccs.Line(p, s); !slices.Equal(l, moves) || q != behind || e != api.OK {
		t.Errorf("P12.2: %#v, %.60q: got %v, %#v, %d, want %v, %#v", p, s, l, q, e, moves, behind)
	}
}

func wantRefused(t *testing.T, p api.Position, s string, want api.Errno) {
	t.Helper()
	if l, q, e := iccs.Line(p, s); len(l) != 0 || q != (api.Position{}) || e != want {
		t.Errorf("P12.2: %#v, %.60q: %v, %#v, got %d, want %d", p, s, l, q, e, want)
	}
}

func TestAllMoves(t *testing.T) {
	for from := range 90 {
		for to := range 90 {
			m := api.Move{From: from, To: to}
			s := square(files, from) + square(files, to)
			if got := iccs.Print(m); got != s {
				t.Errorf("P12.1: %v: got %q, want %q", m, got, s)
			}
			wantMove(t, s, m)
			wantMove(t, square(great, from)+square(great, to), m)
			wantMove(t, square(great, from)+square(files, to), m)
			wantMove(t, square(files, from)+"-"+square(files, to), m)
			wantMove(t, square(great, from)+"-"+square(great, to), m)
			wantMove(t, square(files, from)+"-"+square(great, to), m)
		}
	}
}

func TestExample(t *testing.T) {
	if s := iccs.Print(api.Move{From: 19, To: 82}); s != "b2b9" {
		t.Errorf("P12.1: %q", s)
	}
	wantMove(t, "b2b9", api.Move{From: 19, To: 82})
}

func TestPrintOfNoMoves(t *testing.T) {
	for _, n := range nowhere() {
		for _, m := range []api.Move{{From: n}, {To: n}, {From: n, To: n}, {From: 89, To: n}, {From: n, To: 89}} {
			if s := iccs.Print(m); s != "" {
				t.Errorf("P12.1: %v: %q", m, s)
			}
		}
	}
}

func TestEachByte(t *testing.T) {
	letters, digits, dash := files+great, ranks, "-"
	for s, kinds := range map[string][]string{
		"h2e2":  {letters, digits, letters, digits},
		"H9-g7": {letters, digits, dash, letters, digits},
	} {
		for i, kind := range kinds {
			for c := range 256 {
				text := []byte(s)
				text[i] = byte(c)
				if strings.IndexByte(kind, byte(c)) < 0 {
					wantNoMove(t, string(text))
				} else if m, e := iccs.Parse(string(text)); e != api.OK || iccs.Print(m) != strings.ToLower(strings.ReplaceAll(string(text), "-", "")) {
					t.Errorf("P12.1: %q: %v, %d", text, m, e)
				}
			}
		}
	}
}

func TestTextsOfOtherLengths(t *testing.T) {
	whole := "a0-a1a0-a1"
	for i := range len(whole) {
		for j := i; j <= len(whole); j++ {
			s := whole[i:j]
			if s == "a0-a1" {
				wantMove(t, s, api.Move{To: 9})
			} else if s != "a1a0" {
				wantNoMove(t, s)
			}
		}
	}
	for _, s := range []string{"", " ", "-", "--", "a", "a0", "a0-", "-a0", "a0a", "a0a11", "a10a1", "a0a10", "a09a1", "aa0a1", "a0aa1", "a0a1a2", "a0a1a2a3", "a0 a1", "a0a1 ", " a0a1", "a0a1\n", "a0a1\x00", "\x00a0a1", strings.Repeat("a0", 50000), strings.Repeat("-", 100000)} {
		wantNoMove(t, s)
	}
}

func TestDashes(t *testing.T) {
	wantMove(t, "a0-i9", api.Move{To: 89})
	for i := range len("a0i9") + 1 {
		if i != 2 {
			wantNoMove(t, "a0i9"[:i]+"-"+"a0i9"[i:])
		}
	}
	for _, s := range []string{"a0--i9", "a0-i9-", "-a0-i9", "a-0-i9", "a0-i-9", "a0-i", "a0-9", "a-i9", "0-i9", "a0+i9", "a0=i9", "a0_i9", "a0:i9", "a0.i9", "a0 i9", "a0–i9", "a0xi9", "a0\x00i9"} {
		wantNoMove(t, s)
	}
}

func TestOtherLetters(t *testing.T) {
	for _, s := range []string{"j0a1", "a0j1", "J0a1", "a0J1", "`0a1", "@0a1", "k9k8", "z0z1", "A0Z1", "00a1", "aaa1", "0a1a", "0a0b", "é0a", "a٠a1", "ａ0", "a:a1", "a/a1", "a0a/", "a0a:"} {
		wantNoMove(t, s)
	}
}

func TestText(t *testing.T) {
	wantText(t, nil, "")
	wantText(t, []api.Move{}, "")
	wantText(t, []api.Move{{}}, "a0a0")
	wantText(t, []api.Move{{From: 19, To: 82}}, "b2b9")
	wantText(t, []api.Move{{From: 25, To: 22}, {From: 88, To: 69}, {From: 7, To: 24}}, "h2e2 h9g7 h0g2")
	wantText(t, []api.Move{{From: 0, To: 89}, {From: 0, To: 89}}, "a0i9 a0i9")
	for _, n := range nowhere() {
		for _, m := range []api.Move{{From: n}, {To: n}} {
			wantText(t, []api.Move{m}, "")
			wantText(t, []api.Move{m, {To: 9}}, "")
			wantText(t, []api.Move{{To: 9}, m}, "")
			wantText(t, []api.Move{{To: 9}, m, {To: 9}}, "")
		}
	}
	many := slices.Repeat([]api.Move{{To: 9}}, 5000)
	wantText(t, many, strings.Repeat("a0a1 ", 4999)+"a0a1")
	wantText(t, append(many, api.Move{To: 90}), "")
}

func TestTextLeavesItsList(t *testing.T) {
	l := []api.Move{{From: 25, To: 22}, {From: 88, To: 90}}
	iccs.Text(l)
	if !slices.Equal(l, []api.Move{{From: 25, To: 22}, {From: 88, To: 90}}) {
		t.Errorf("R5: %v", l)
	}
}

// made is the position behind moves, made one by one.
func made(t *testing.T, p api.Position, moves ...api.Move) api.Position {
	t.Helper()
	for _, m := range moves {
		q, _, e := legal.Make(p, m)
		if e != api.OK {
			t.Fatalf("%#v, %v: %d", p, m, e)
		}
		p = q
	}
	return p
}

func TestLine(t *testing.T) {
	opening := []api.Move{{From: 19, To: 82}, {From: 81, To: 82}, {From: 25, To: 88}, {From: 89, To: 88}, {From: 0, To: 9}}
	texts := []string{"b2b9", "A9-b9", "H2h9", "i9-H9", "a0-a1"}
	for n := range len(opening) + 1 {
		wantLine(t, start, strings.Join(texts[:n], " "), opening[:n], made(t, start, opening[:n]...))
	}
	// All fields of the position behind are those that legal.Make tells.
	late := api.Position{Cells: api.Start, Side: 1, Clock: 119, Full: 9998}
	wantLine(t, late, "a9a8 a0a1 a8a7", []api.Move{{From: 81, To: 72}, {From: 0, To: 9}, {From: 72, To: 63}},
		api.Position{Cells: board.Put(board.Put(board.Put(board.Put(api.Start, 81, '.'), 63, 'r'), 0, '.'), 9, 'R'), Side: 0, Clock: 120, Full: 9999})
}

func TestLineWithoutWords(t *testing.T) {
	for _, p := range []api.Position{start, {Cells: api.Start, Side: 1, Clock: 120, Full: 9999}, {Cells: with("Kkrr", 4, 84, 0, 12), Full: 7}} {
		wantLine(t, p, "", nil, p)
	}
}

func TestBlanks(t *testing.T) {
	wantLine(t, start, "a0a1 a9a8", []api.Move{{To: 9}, {From: 81, To: 72}}, made(t, start, api.Move{To: 9}, api.Move{From: 81, To: 72}))
	for _, s := range []string{" ", "  ", "   ", " a0a1", "a0a1 ", " a0a1 ", "a0a1  a9a8", "a0a1   a9a8", "  a0a1", "a0a1  ", "a0a1 a9a8 ", "a0a1\ta9a8", "a0a1\na9a8", "\ta0a1", "a0a1\n", "a0a1\u00a0a9a8", "a0a1,a9a8", "a0a1a9a8", strings.Repeat(" ", 100000), "a0a1" + strings.Repeat(" ", 100000)} {
		wantRefused(t, start, s, api.ErrForm)
	}
}

func TestWordsThatMayNotBeMade(t *testing.T) {
	for s, want := range map[string]api.Errno{
		"x":              api.ErrForm,
		"a0a1 x":         api.ErrForm,
		"a0a1 a9a8 a1":   api.ErrForm,
		"a0a5":           api.ErrMove, // over a pawn of its own
		"a0a0":           api.ErrMove,
		"a9a8":           api.ErrMove, // it is not black's move
		"e4e5":           api.ErrMove, // nothing stands there
		"a0a1 a1a2":      api.ErrMove, // nor red's again
		"h2e2 h2e2":      api.ErrMove,
		"a0a1 a9a8 a0a1": api.ErrMove, // it stands there no more
		"h2e2 h9g7 e2e9": api.ErrMove,
		// The first word that is refused tells the error.
		"a0a5 x":      api.ErrMove,
		"x a0a5":      api.ErrForm,
		"a0a1 a0a5 x": api.ErrMove,
		"a0a1 x a0a5": api.ErrForm,
		"a0a5 ":       api.ErrMove,
		"a0a5  a0a1":  api.ErrMove,
		" a0a5":       api.ErrForm,
	} {
		wantRefused(t, start, s, want)
	}
	// A move that a piece reaches, but by which its own general is taken, or faces the other.
	wantRefused(t, api.Position{Cells: with("KNrk", 4, 13, 31, 84), Full: 1}, "e1g2", api.ErrMove)
	wantRefused(t, api.Position{Cells: with("KNk", 4, 13, 85), Full: 1}, "e1g2", api.ErrMove)
	// Behind the end nothing is made, but what is no move goes ahead.
	mate := api.Position{Cells: with("Kkrr", 4, 84, 9, 12), Side: 1, Full: 1}
	wantLine(t, mate, "a1a0", []api.Move{{From: 9, To: 0}}, made(t, mate, api.Move{From: 9, To: 0}))
	wantRefused(t, mate, "a1a0 e0e1", api.ErrMove)
	wantRefused(t, mate, "a1a0 e0f0", api.ErrMove)
	wantRefused(t, mate, "a1a0 e0", api.ErrForm)
}

func TestEachFirstMove(t *testing.T) {
	for _, p := range []api.Position{start, {Cells: api.Start, Side: 1, Full: 1}, {Cells: with("KARrkNc", 4, 5, 13, 31, 84, 40, 67), Clock: 5, Full: 9}} {
		for from := range 90 {
			for to := range 90 {
				m := api.Move{From: from, To: to}
				if legal.Is(p, m) {
					wantLine(t, p, iccs.Print(m), []api.Move{m}, made(t, p, m))
				} else {
					wantRefused(t, p, iccs.Print(m), api.ErrMove)
				}
			}
		}
	}
}

func TestMostWords(t *testing.T) {
	round := []api.Move{{From: 0, To: 9}, {From: 81, To: 72}, {From: 9, To: 0}, {From: 72, To: 81}}
	s := strings.Repeat("a0a1 a9a8 a1a0 a8a9 ", 256)
	most := strings.TrimSuffix(s, " ")
	wantLine(t, start, most, slices.Repeat(round, 256), api.Position{Cells: api.Start, Clock: 120, Full: 513})
	for word, want := range map[string]api.Errno{
		"a0a1":  api.ErrFull,
		"A0-a1": api.ErrFull,
		"a0a5":  api.ErrFull, // it could not be made, either
		"a9a8":  api.ErrFull,
		"x":     api.ErrForm, // what is no move goes ahead
		"":      api.ErrForm,
		"a0":    api.ErrForm,
		"a0--1": api.ErrForm,
	} {
		wantRefused(t, start, s+word, want)
		wantRefused(t, start, s+word+" x", want)
		wantRefused(t, start, s+word+" a0a1", want)
		wantRefused(t, start, s+word+" ", want)
	}
	// The one ahead of that is refused for what it is.
	ahead := strings.TrimSuffix(most, "a8a9")
	wantLine(t, start, strings.TrimSuffix(ahead, " "), slices.Repeat(round, 256)[:1023], api.Position{Cells: made(t, start, round[:3]...).Cells, Side: 1, Clock: 120, Full: 512})
	wantRefused(t, start, ahead+"a0a1", api.ErrMove)
	wantRefused(t, start, ahead+"x", api.ErrForm)
	wantRefused(t, start, ahead+"a0a1 a0a1", api.ErrMove)
	wantRefused(t, start, ahead+"x a0a1", api.ErrForm)
	wantRefused(t, start, strings.Repeat("a0a1 a9a8 a1a0 a8a9 ", 20000), api.ErrFull)
}

func TestLineOfWrongPositions(t *testing.T) {
	facing, attacked, misplaced := with("Kk", 4, 85), with("KkR", 4, 84, 81), with("KkB", 4, 85, 3)
	for p, want := range map[api.Position]api.Errno{
		{}:                                              api.ErrArg,
		{Cells: api.Start}:                              api.ErrArg,
		{Cells: api.Start, Full: 10000}:                 api.ErrArg,
		{Cells: api.Start, Full: 1, Clock: -1}:          api.ErrArg,
		{Cells: api.Start, Full: 1, Clock: 121}:         api.ErrArg,
		{Cells: api.Start, Full: 1, Side: -1}:           api.ErrArg,
		{Cells: api.Start, Full: 1, Side: 2}:            api.ErrArg,
		{Cells: api.Start[1:], Full: 1}:                 api.ErrArg,
		{Cells: api.Start + ".", Full: 1}:               api.ErrArg,
		{Cells: strings.Repeat("\x00", 90), Full: 1}:    api.ErrArg,
		{Cells: with(""), Full: 1}:                      api.ErrCount,
		{Cells: board.Put(misplaced, 5, 'K'), Full: 1}:  api.ErrCount,
		{Cells: misplaced, Full: 1}:                     api.ErrPlace,
		{Cells: facing, Full: 1}:                        api.ErrFacing,
		{Cells: board.Put(facing, 81, 'R'), Full: 1}:    api.ErrFacing,
		{Cells: attacked, Full: 1}:                      api.ErrCheck,
		{Cells: board.Turn(attacked), Side: 1, Full: 1}: api.ErrCheck,
	} {
		// It goes ahead of what is wrong with the words.
		for _, s := range []string{"", " ", "x", "a0a1", "a0a1 x", "e0f0", strings.Repeat("a0a1 ", 1025)} {
			wantRefused(t, p, s, want)
		}
		if e := check.Well(p); e != want {
			t.Errorf("%#v: %d", p, e)
		}
	}
	// Where the side that is attacked is to move, it is right.
	p := api.Position{Cells: attacked, Side: 1, Full: 1}
	wantLine(t, p, "d9d8", []api.Move{{From: 84, To: 75}}, made(t, p, api.Move{From: 84, To: 75}))
}

func TestPrintedIsRead(t *testing.T) {
	r := random(1442695040888963407)
	for i := range 40 {
		p, moves := start, []api.Move(nil)
		for range i * 5 {
			l := legal.Moves(p)
			if len(l) == 0 {
				break
			}
			m := l[r.below(len(l))]
			p, moves = made(t, p, m), append(moves, m)
		}
		s := iccs.Text(moves)
		wantLine(t, start, s, moves, p)
		wantLine(t, start, strings.ToUpper(s), moves, p)
	}
}

func TestMovesAreNew(t *testing.T) {
	l, _, _ := iccs.Line(start, "a0a1 a9a8")
	l[0] = api.Move{From: 1, To: 2}
	wantLine(t, start, "a0a1 a9a8", []api.Move{{To: 9}, {From: 81, To: 72}}, made(t, start, api.Move{To: 9}, api.Move{From: 81, To: 72}))
}

func FuzzParse(f *testing.F) {
	for _, s := range []string{"", "a0a1", "H2-e2", "a0--a1", "i9i8", "j0a1", "é0a"} {
		f.Add(s)
	}
	f.Fuzz(func(t *testing.T, s string) {
		m, e := iccs.Parse(s)
		if e != api.OK {
			wantNoMove(t, s)
			return
		}
		plain := strings.ToLower(s)
		if len(plain) == 5 && plain[2] == '-' {
			plain = plain[:2] + plain[3:]
		}
		if iccs.Print(m) != plain {
			t.Errorf("P12.1: %q: %v", s, m)
		}
		wantMove(t, plain, m)
	})
}

func FuzzLine(f *testing.F) {
	for _, s := range []string{"", " ", "a0a1", "h2e2 H9-g7 h0g2", "a0a1  a9a8", "a0a5", "b2b9 a9b9 x"} {
		f.Add(s)
	}
	f.Fuzz(func(t *testing.T, s string) {
		moves, p, e := iccs.Line(start, s)
		if e != api.OK {
			wantRefused(t, start, s, e)
			return
		}
		if made(t, start, moves...) != p {
			t.Errorf("P12.2: %q: %#v", s, p)
		}
		wantLine(t, start, iccs.Text(moves), moves, p)
	})
}
