package check_test

import (
	"math"
	"slices"
	"strings"
	"testing"

	"riverbank/api"
	"riverbank/board"
	"riverbank/check"
	"riverbank/place"
	"riverbank/pseudo"
	"riverbank/reach"
)

const (
	red   = "KABNRCP"
	black = "kabnrcp"
)

var dots = strings.Repeat(".", 90)

// with is an empty board on which these pieces stand, each on its square.
func with(pieces string, squares ...int) string {
	cells := []byte(dots)
	for i, n := range squares {
		cells[n] = pieces[i]
	}
	return string(cells)
}

// random is a row of numbers that is the same each time.
type random uint64

// below is its next one, from 0 on.
func (r *random) below(n int) int {
	*r ^= *r << 13
	*r ^= *r >> 7
	*r ^= *r << 17
	return int(*r % random(n))
}

// boards are boards of all kinds: the start, few and many pieces, right ones and ones that no game comes to.
func boards() []string {
	l := []string{api.Start, dots, strings.Repeat("C", 90), strings.Repeat("n", 90), strings.Repeat("K", 90)}
	r := random(88172645463325252)
	for i := range 120 {
		cells := []byte(dots)
		for n := range cells {
			if r.below(10) <= i%10 {
				cells[n] = (red + black)[r.below(14)]
			}
		}
		l = append(l, string(cells))
	}
	return l
}

// positions are ones that place.Check finds right: scattered ones, in which generals face one another and are
// attacked, whosever move it is.
func positions() []api.Position {
	l := []api.Position{{Cells: api.Start, Full: 1}, {Cells: api.Start, Side: 1, Clock: 120, Full: 9999}}
	r := random(88172645463325252)
	for i := range 200 {
		cells := dots
		for _, c := range []byte("KkAaAaBbBbNNnnRRrrCCccPPPPPppppp") {
			points := place.Points(c)
			n := points[r.below(len(points))]
			if cells[n] == '.' && (c == 'K' || c == 'k' || r.below(8) > i%8) {
				cells = board.Put(cells, n, c)
			}
		}
		l = append(l, api.Position{Cells: cells, Side: r.below(2), Clock: r.below(121), Full: 1 + r.below(9999)})
	}
	return l
}

// others are texts that are no boards.
func others() []string {
	s := api.Start
	l := []string{"", "K", ".", s[:89], s[1:], s + ".", s + s, strings.Repeat("\x00", 90), strings.Repeat("é", 45), strings.Repeat("é", 90)}
	for _, n := range []int{0, 44, 45, 89} {
		for _, c := range []string{"x", "H", "e", "\x00", "\xff", " "} {
			l = append(l, s[:n]+c+s[n+1:])
		}
	}
	return l
}

// nowhere are numbers that are no squares.
func nowhere() []int {
	return []int{math.MinInt, math.MinInt + 1, -1 << 32, -91, -90, -9, -1, 90, 91, 99, 179, 180, 256, 1 << 32, 1<<32 + 18, math.MaxInt - 9, math.MaxInt}
}

// nobody are numbers that are no sides.
func nobody() []int {
	return []int{math.MinInt, math.MinInt + 1, -1 << 32, -2, -1, 2, 3, 256, 1 << 32, 1<<32 + 1, math.MaxInt}
}

// plainAttackers are told from the chapter's words, square by square.
func plainAttackers(cells string, n int, side int) []int {
	letters, pawn := red, byte('p')
	if side == 1 {
		letters, pawn = black, 'P'
	}
	stood := []byte(cells)
	stood[n] = pawn
	var l []int
	for from := range 90 {
		if from != n && strings.IndexByte(letters, cells[from]) >= 0 && reach.Can(string(stood), from, n) {
			l = append(l, from)
		}
	}
	return l
}

func TestAttackersOfEachKind(t *testing.T) {
	// What stands on the square is of no moment: nothing, a piece of either side, one of the same kind, a general.
	on := ".RrNnKkPpCc"
	for _, c := range []struct {
		pieces  string
		squares []int
		n       int
		want    []int
	}{
		{"K", []int{4}, 13, []int{4}},
		{"K", []int{4}, 14, nil},
		{"K", []int{22}, 31, nil}, // a general never leaves the palace
		{"A", []int{13}, 23, []int{13}},
		{"A", []int{13}, 14, nil},
		{"A", []int{23}, 33, nil},
		{"B", []int{22}, 42, []int{22}},
		{"BP", []int{22, 32}, 42, nil}, // its eye is stopped
		{"B", []int{42}, 62, nil},      // nor an elephant its half
		{"N", []int{40}, 59, []int{40}},
		{"NP", []int{40, 49}, 59, nil}, // its leg is stopped
		{"Np", []int{40, 49}, 59, nil},
		{"NN", []int{40, 41}, 59, []int{40}},
		{"R", []int{0}, 8, []int{0}},
		{"Rp", []int{0, 5}, 8, nil},
		{"R", []int{0}, 81, []int{0}},
		{"RR", []int{0, 5}, 8, []int{5}},
		{"C", []int{0}, 8, nil},
		{"Cp", []int{0, 5}, 8, []int{0}},
		{"CP", []int{0, 5}, 8, []int{0}},
		{"CPp", []int{0, 5, 6}, 8, nil},
		{"CK", []int{0, 36}, 45, []int{0}},
		{"CC", []int{0, 4}, 8, []int{0}},
		{"P", []int{27}, 36, []int{27}},
		{"P", []int{27}, 28, nil},
		{"P", []int{45}, 46, []int{45}},
		{"P", []int{45}, 54, []int{45}},
		{"P", []int{45}, 36, nil},
		{"PPNNCkr", []int{48, 50, 38, 39, 4, 31, 58}, 49, []int{4, 48, 50}},
		{"PPPNR", []int{48, 50, 40, 38, 58}, 49, []int{38, 40, 48, 50, 58}},
	} {
		cells := with(c.pieces, c.squares...)
		for i := range on {
			wantAttackers(t, board.Put(cells, c.n, on[i]), c.n, 0, c.want)
			wantAttackers(t, board.Turn(board.Put(cells, c.n, on[i])), 89-c.n, 1, turned(c.want))
		}
	}
}

// turned are squares as they are from the other side, rising.
func turned(l []int) []int {
	t := slices.Clone(l)
	slices.Reverse(t)
	for i := range t {
		t[i] = 89 - t[i]
	}
	return t
}

func wantAttackers(t *testing.T, cells string, n int, side int, want []int) {
	t.Helper()
	if l := check.Attackers(cells, n, side); !slices.Equal(l, want) {
		t.Errorf("P7.1: %q, %d, by %d: got %v, want %v", cells, n, side, l, want)
	}
}

func TestScreensAndPiecesInPlace(t *testing.T) {
	// A cannon does not attack the piece that it goes over, but what is behind it.
	cells := with("CPr", 0, 2, 5)
	wantAttackers(t, cells, 2, 0, nil)
	wantAttackers(t, cells, 2, 1, []int{5})
	wantAttackers(t, cells, 5, 0, []int{0})
	wantAttackers(t, cells, 4, 0, []int{0})
	wantAttackers(t, cells, 8, 0, nil)
	wantAttackers(t, cells, 8, 1, []int{5})
	// What stands on the square itself attacks it never, and does not go on to be of its side there.
	wantAttackers(t, with("R", 40), 40, 0, nil)
	wantAttackers(t, with("RR", 40, 44), 40, 0, []int{44})
	wantAttackers(t, with("RR", 40, 44), 44, 0, []int{40})
	wantAttackers(t, with("rR", 40, 44), 40, 0, []int{44})
	wantAttackers(t, with("rR", 40, 44), 40, 1, nil)
	wantAttackers(t, with("RCp", 40, 44, 42), 40, 0, []int{44})
}

func TestAttackersOfTheStart(t *testing.T) {
	for _, c := range []struct {
		n, side int
		want    []int
	}{
		{82, 0, []int{19}},
		{88, 0, []int{25}},
		{1, 1, []int{64}},
		{18, 0, []int{0, 1, 2, 25}},
		{22, 0, []int{2, 6}},
		{13, 0, []int{3, 4, 5}},
		{36, 0, []int{27}},
		{36, 1, nil},
		{45, 1, []int{54}},
		{0, 0, nil},
		{85, 0, nil},
	} {
		wantAttackers(t, api.Start, c.n, c.side, c.want)
	}
}

func TestAttackersOfBoards(t *testing.T) {
	for _, cells := range boards() {
		for n := range 90 {
			for side := range 2 {
				wantAttackers(t, cells, n, side, plainAttackers(cells, n, side))
			}
		}
	}
}

func TestAttackersOfNothing(t *testing.T) {
	for _, cells := range others() {
		for _, n := range []int{-1, 0, 4, 13, 18, 82, 89, 90} {
			for side := -1; side <= 2; side++ {
				wantAttackers(t, cells, n, side, nil)
			}
		}
	}
	for _, cells := range boards() {
		for _, n := range nowhere() {
			for side := -1; side <= 2; side++ {
				wantAttackers(t, cells, n, side, nil)
			}
		}
		for _, side := range nobody() {
			for n := range 90 {
				wantAttackers(t, cells, n, side, nil)
			}
		}
	}
}

func TestAttackersAreNew(t *testing.T) {
	check.Attackers(api.Start, 18, 0)[0] = 50
	wantAttackers(t, api.Start, 18, 0, []int{0, 1, 2, 25})
}

func TestGeneral(t *testing.T) {
	for _, c := range []struct {
		cells string
		want  [2]int
	}{
		{api.Start, [2]int{4, 85}},
		{board.Turn(api.Start), [2]int{4, 85}},
		{dots, [2]int{-1, -1}},
		{with("K", 0), [2]int{0, -1}},
		{with("k", 0), [2]int{-1, 0}},
		{with("K", 89), [2]int{89, -1}},
		{with("KK", 13, 4), [2]int{4, -1}},
		{with("kkK", 85, 76, 40), [2]int{40, 76}},
		{with("RNBACPrnbacp", 0, 1, 2, 3, 4, 5, 6, 7, 8, 9, 10, 11), [2]int{-1, -1}},
	} {
		for side, want := range c.want {
			if n := check.General(c.cells, side); n != want {
				t.Errorf("P7.2: General of %q, %d: got %d, want %d", c.cells, side, n, want)
			}
		}
		wantNoGeneral(t, c.cells, nobody())
	}
	for _, cells := range others() {
		wantNoGeneral(t, cells, []int{0, 1, -1, 2})
	}
}

func wantNoGeneral(t *testing.T, cells string, sides []int) {
	t.Helper()
	for _, side := range sides {
		if n := check.General(cells, side); n != -1 {
			t.Errorf("P7.2: General of %q, %d: %d", cells, side, n)
		}
		if check.In(cells, side) {
			t.Errorf("P7.2: In of %q, %d", cells, side)
		}
	}
}

func TestFacing(t *testing.T) {
	for _, c := range []struct {
		cells string
		want  bool
	}{
		{api.Start, false},
		{with("Kk", 4, 85), true},
		{with("Kk", 85, 4), true},
		{with("Kk", 13, 22), true},
		{with("Kk", 3, 66), true},
		{with("Kk", 4, 84), false},
		{with("Kk", 4, 86), false},
		{with("KkP", 4, 85, 13), false},
		{with("Kkp", 4, 85, 76), false},
		{with("KkPp", 4, 85, 40, 49), false},
		{with("KkRr", 4, 85, 39, 41), true},
		{with("Kk", 3, 5), false}, // on one rank, with nothing between them
		{with("Kk", 36, 44), false},
		{with("K", 4), false},
		{with("k", 85), false},
		{dots, false},
		{with("KKk", 4, 5, 85), true},
		{with("KKk", 3, 4, 85), false}, // the least square of each side is the one
		{with("KKk", 4, 13, 85), false},
		{with("Kkk", 4, 67, 85), true},
		{with("Kkk", 4, 76, 84), true},
		{with("Kkk", 4, 75, 85), false},
	} {
		if got := check.Facing(c.cells); got != c.want {
			t.Errorf("P7.2: Facing of %q: got %v, want %v", c.cells, got, c.want)
		}
	}
	for _, cells := range others() {
		if check.Facing(cells) {
			t.Errorf("P7.2: Facing of %q", cells)
		}
	}
	// Generals that would face one another, if what they stand on were a board.
	if s := with("Kk", 4, 85); check.Facing(s[:89]) || check.Facing(s+".") || check.Facing("x"+s[1:]) {
		t.Error("P7.2: Facing of no board")
	}
}

func TestFacingOfPositions(t *testing.T) {
	faced := 0
	for _, p := range positions() {
		k, j := strings.IndexByte(p.Cells, 'K'), strings.IndexByte(p.Cells, 'k')
		want := k%9 == j%9
		for n := k + 9; want && n < j; n += 9 {
			want = p.Cells[n] == '.'
		}
		if got := check.Facing(p.Cells); got != want {
			t.Errorf("P7.2: Facing of %q: got %v, want %v", p.Cells, got, want)
		}
		if want {
			faced++
		}
	}
	if faced == 0 {
		t.Error("P7.2: no position in which generals face one another")
	}
}

func TestIn(t *testing.T) {
	for _, c := range []struct {
		cells string
		want  [2]bool
	}{
		{api.Start, [2]bool{false, false}},
		{with("Kr", 4, 31), [2]bool{true, false}},
		{with("KrP", 4, 31, 22), [2]bool{false, false}},
		{with("Kc", 4, 31), [2]bool{false, false}},
		{with("KcP", 4, 31, 22), [2]bool{true, false}},
		{with("Kn", 4, 23), [2]bool{true, false}},
		{with("KnA", 4, 23, 14), [2]bool{false, false}},
		{with("Kp", 4, 13), [2]bool{true, false}},
		{with("Kp", 4, 5), [2]bool{true, false}},
		{with("Kp", 13, 4), [2]bool{false, false}},
		{with("kR", 85, 40), [2]bool{false, true}},
		{with("kN", 85, 66), [2]bool{false, true}},
		{with("kP", 85, 76), [2]bool{false, true}},
		{with("KkRr", 4, 85, 8, 89), [2]bool{false, false}},
		{with("KkRr", 4, 85, 80, 0), [2]bool{true, false}},
		{with("KkRr", 4, 85, 81, 0), [2]bool{true, true}},
		{with("Kk", 4, 85), [2]bool{false, false}}, // to face is no attack
		{with("Kk", 4, 13), [2]bool{false, true}},  // but in its palace a general reaches another one
		{with("r", 4), [2]bool{false, false}},
		{with("KKr", 4, 13, 17), [2]bool{false, false}}, // the least square is the one
		{with("KKr", 4, 13, 8), [2]bool{true, false}},
		{with("kkR", 76, 85, 89), [2]bool{false, false}},
		{with("KR", 4, 8), [2]bool{false, false}},
	} {
		for side, want := range c.want {
			if got := check.In(c.cells, side); got != want {
				t.Errorf("P7.2: In of %q, %d: got %v, want %v", c.cells, side, got, want)
			}
		}
	}
	for _, cells := range others() {
		wantNoGeneral(t, cells, []int{0, 1})
	}
	if s := with("KrkR", 4, 31, 84, 39); check.In(s[:89], 0) || check.In("x"+s[1:], 0) || check.In(s+".", 1) || check.In("x"+s[1:], 1) {
		t.Error("P7.2: In of no board")
	}
}

// attacked tells whether a side's general is, from the chapter's words.
func attacked(cells string, side int) bool {
	n := strings.IndexByte(cells, "Kk"[side])
	return n >= 0 && len(plainAttackers(cells, n, 1-side)) > 0
}

func TestInOfBoards(t *testing.T) {
	for _, cells := range boards() {
		for side := range 2 {
			if got, want := check.In(cells, side), attacked(cells, side); got != want {
				t.Errorf("P7.2: In of %q, %d: got %v, want %v", cells, side, got, want)
			}
		}
		wantNoGeneral(t, cells, nobody())
	}
}

func wantWell(t *testing.T, p api.Position, want api.Errno) {
	t.Helper()
	if e := check.Well(p); e != want {
		t.Errorf("P7.3: %#v: got %d, want %d", p, e, want)
	}
}

func TestWell(t *testing.T) {
	for _, c := range []struct {
		cells string
		want  [2]api.Errno // by whose move it is
	}{
		{api.Start, [2]api.Errno{0, 0}},
		{with("Kk", 4, 84), [2]api.Errno{0, 0}},
		{with("Kk", 4, 85), [2]api.Errno{api.ErrFacing, api.ErrFacing}},
		{with("KkA", 4, 85, 13), [2]api.Errno{0, 0}},
		{with("KkN", 4, 84, 65), [2]api.Errno{api.ErrCheck, 0}},
		{with("Kkn", 4, 84, 23), [2]api.Errno{0, api.ErrCheck}},
		{with("KkRr", 4, 84, 81, 0), [2]api.Errno{api.ErrCheck, api.ErrCheck}},
		{with("KkR", 4, 85, 81), [2]api.Errno{api.ErrFacing, api.ErrFacing}}, // and attacked
		{with("KkR", 4, 85, 31), [2]api.Errno{api.ErrCheck, 0}},              // it stands between
		{with("KkB", 4, 85, 3), [2]api.Errno{api.ErrPlace, api.ErrPlace}},    // and they face one another
		{with("KkRB", 4, 84, 81, 3), [2]api.Errno{api.ErrPlace, api.ErrPlace}},
		{with("KkRRR", 4, 85, 0, 1, 2), [2]api.Errno{api.ErrCount, api.ErrCount}},
		{with("KkBBB", 4, 85, 3, 5, 6), [2]api.Errno{api.ErrCount, api.ErrCount}},
		{with("K", 4), [2]api.Errno{api.ErrCount, api.ErrCount}},
		{with("KkK", 4, 85, 14), [2]api.Errno{api.ErrCount, api.ErrCount}},
		{"", [2]api.Errno{api.ErrArg, api.ErrArg}},
		{api.Start + ".", [2]api.Errno{api.ErrArg, api.ErrArg}},
		{"x" + with("Kk", 4, 85)[1:], [2]api.Errno{api.ErrArg, api.ErrArg}},
	} {
		for side, want := range c.want {
			wantWell(t, api.Position{Cells: c.cells, Side: side, Full: 1}, want)
			wantWell(t, api.Position{Cells: c.cells, Side: side, Clock: 120, Full: 9999}, want)
			wantWell(t, api.Position{Cells: board.Turn(c.cells), Side: 1 - side, Full: 1}, want)
		}
	}
}

func TestWellOfWrongArguments(t *testing.T) {
	// Boards with all that may be wrong with them: what is no argument is told first.
	for _, cells := range []string{api.Start, dots, with("Kk", 4, 85), with("KkR", 4, 84, 81), with("KkB", 4, 85, 3)} {
		for _, side := range nobody() {
			wantWell(t, api.Position{Cells: cells, Side: side, Full: 1}, api.ErrArg)
		}
		for _, clock := range []int{math.MinInt, -1, 121, math.MaxInt} {
			wantWell(t, api.Position{Cells: cells, Clock: clock, Full: 1}, api.ErrArg)
		}
		for _, full := range []int{math.MinInt, -1, 0, 10000, math.MaxInt} {
			wantWell(t, api.Position{Cells: cells, Full: full}, api.ErrArg)
		}
	}
	for _, cells := range others() {
		wantWell(t, api.Position{Cells: cells, Full: 1}, api.ErrArg)
	}
	wantWell(t, api.Position{}, api.ErrArg)
}

func TestWellOfPositions(t *testing.T) {
	count := map[api.Errno]int{}
	for _, p := range positions() {
		for _, cells := range []string{p.Cells, board.Put(p.Cells, 0, 'a'), board.Put(p.Cells, strings.IndexByte(p.Cells, 'k'), '.')} {
			p.Cells = cells
			want := place.Check(p)
			switch {
			case want != api.OK:
			case check.Facing(cells):
				want = api.ErrFacing
			case attacked(cells, 1-p.Side):
				want = api.ErrCheck
			}
			wantWell(t, p, want)
			count[want]++
		}
	}
	for _, e := range []api.Errno{api.OK, api.ErrFacing, api.ErrCheck, api.ErrPlace, api.ErrCount} {
		if count[e] == 0 {
			t.Errorf("P7.3: no position with error %d", e)
		}
	}
}

func TestAttackersTake(t *testing.T) {
	for _, p := range positions() {
		var want []api.Move
		for n := range 90 {
			if board.Side(p.Cells[n]) != 1-p.Side {
				continue
			}
			for _, from := range check.Attackers(p.Cells, n, p.Side) {
				want = append(want, api.Move{From: from, To: n})
			}
		}
		slices.SortFunc(want, func(a, b api.Move) int { return (a.From-b.From)*100 + a.To - b.To })
		if l := pseudo.Captures(p); !slices.Equal(l, want) {
			t.Errorf("P7.4: %#v: takes %v, attackers' %v", p, l, want)
		}
	}
}

func TestFromTheOtherSide(t *testing.T) {
	for _, cells := range boards() {
		other := board.Turn(cells)
		for n := range 90 {
			for side := range 2 {
				wantAttackers(t, other, 89-n, 1-side, turned(check.Attackers(cells, n, side)))
			}
		}
	}
	for _, p := range positions() {
		q := api.Position{Cells: board.Turn(p.Cells), Side: 1 - p.Side, Clock: p.Clock, Full: p.Full}
		wantWell(t, q, check.Well(p))
		if check.Facing(q.Cells) != check.Facing(p.Cells) || check.In(q.Cells, 0) != check.In(p.Cells, 1) || check.In(q.Cells, 1) != check.In(p.Cells, 0) {
			t.Errorf("P7: %#v", p)
		}
	}
}
