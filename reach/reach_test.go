package reach_test

import (
	"math"
	"slices"
	"strings"
	"testing"

	"riverbank/api"
	"riverbank/board"
	"riverbank/reach"
)

const (
	red   = "KABNRCP"
	black = "kabnrcp"
)

var dots = strings.Repeat(".", 90)

// with is an empty board on which these pieces stand, each on its square.
func with(pieces string, squares ...int) string {
	cells := []byte(dots)
	for i, n := range squares {
		cells[n] = pieces[i]
	}
	return string(cells)
}

// boards are boards of all kinds: the start, few and many pieces, right ones and ones that no game comes to.
func boards() []string {
	l := []string{api.Start, dots, strings.Repeat("C", 90), strings.Repeat("n", 90)}
	x := uint64(88172645463325252)
	next := func(n int) int {
		x ^= x << 13
		x ^= x >> 7
		x ^= x << 17
		return int(x % uint64(n))
	}
	for i := range 120 {
		cells := []byte(dots)
		for n := range cells {
			if next(10) <= i%10 {
				cells[n] = (red + black)[next(14)]
			}
		}
		l = append(l, string(cells))
	}
	return l
}

// others are texts that are no boards.
func others() []string {
	s := api.Start
	l := []string{"", "R", ".", s[:89], s[1:], s + ".", s + s, strings.Repeat("\x00", 90), strings.Repeat("é", 45), strings.Repeat("é", 90)}
	for _, n := range []int{0, 44, 45, 89} {
		for _, c := range []string{"x", "H", "e", "\x00", "\xff", " "} {
			l = append(l, s[:n]+c+s[n+1:])
		}
	}
	return l
}

// nowhere are numbers that are no squares.
func nowhere() []int {
	return []int{math.MinInt, math.MinInt + 1, -1 << 32, -91, -90, -9, -1, 90, 91, 99, 179, 180, 256, 1 << 32, 1<<32 + 1, math.MaxInt - 9, math.MaxInt}
}

// standing are the squares on which generals, advisors and elephants may stand, written out from chapter 3.
func standing(c byte) []int {
	switch c {
	case 'K':
		return []int{3, 4, 5, 12, 13, 14, 21, 22, 23}
	case 'k':
		return []int{66, 67, 68, 75, 76, 77, 84, 85, 86}
	case 'A':
		return []int{3, 5, 13, 21, 23}
	case 'a':
		return []int{66, 68, 76, 84, 86}
	case 'B':
		return []int{2, 6, 18, 22, 26, 38, 42}
	case 'b':
		return []int{47, 51, 63, 67, 71, 83, 87}
	}
	return nil
}

// walker goes over a board from one square, step by step, as a player would.
type walker struct {
	cells string
	from  int
	found []int
}

// square is the one so many files and ranks from the walker's; -1: it is off the board.
func (w *walker) square(files int, ranks int) int {
	file, rank := w.from%9+files, w.from/9+ranks
	if file < 0 || file > 8 || rank < 0 || rank > 9 {
		return -1
	}
	return 9*rank + file
}

// at is what stands there; a blank: it is off the board.
func (w *walker) at(files int, ranks int) byte {
	if n := w.square(files, ranks); n >= 0 {
		return w.cells[n]
	}
	return ' '
}

// land takes a square down, if it is one, and nothing of the own side stands there.
func (w *walker) land(files int, ranks int) {
	n := w.square(files, ranks)
	if n < 0 || w.cells[n] != '.' && isRed(w.cells[n]) == isRed(w.cells[w.from]) {
		return
	}
	w.found = append(w.found, n)
}

// slide goes along a line: over the empty squares, and to the piece behind so many others.
func (w *walker) slide(files int, ranks int, others int) {
	k := 1
	for ; w.at(k*files, k*ranks) == '.'; k++ {
		w.land(k*files, k*ranks)
	}
	for ; w.at(k*files, k*ranks) != ' '; k++ {
		switch {
		case w.at(k*files, k*ranks) == '.':
		case others == 0:
			w.land(k*files, k*ranks)
			return
		default:
			others--
		}
	}
}

func isRed(c byte) bool { return strings.IndexByte(red, c) >= 0 }

// plain are the squares that the piece on from reaches, told from the chapter's words by walking.
func plain(cells string, from int) []int {
	w := &walker{cells: cells, from: from}
	c := cells[from]
	lines := [][2]int{{0, 1}, {0, -1}, {1, 0}, {-1, 0}}
	aslant := [][2]int{{1, 1}, {1, -1}, {-1, 1}, {-1, -1}}
	switch c {
	case 'K', 'k':
		for _, d := range lines {
			w.land(d[0], d[1])
		}
	case 'A', 'a':
		for _, d := range aslant {
			w.land(d[0], d[1])
		}
	case 'B', 'b':
		for _, d := range aslant {
			if w.at(d[0], d[1]) == '.' {
				w.land(2*d[0], 2*d[1])
			}
		}
	case 'N', 'n':
		for _, d := range aslant {
			if w.at(d[0], 0) == '.' {
				w.land(2*d[0], d[1])
			}
			if w.at(0, d[1]) == '.' {
				w.land(d[0], 2*d[1])
			}
		}
	case 'R', 'r':
		for _, d := range lines {
			w.slide(d[0], d[1], 0)
		}
	case 'C', 'c':
		for _, d := range lines {
			w.slide(d[0], d[1], 1)
		}
	case 'P', 'p':
		w.march(isRed(c))
	}
	if l := standing(c); l != nil {
		w.found = slices.DeleteFunc(w.found, func(n int) bool { return !slices.Contains(l, n) })
	}
	slices.Sort(w.found)
	return w.found
}

// march goes a pawn's way.
func (w *walker) march(upward bool) {
	over, ahead := w.from < 45, -1
	if upward {
		over, ahead = w.from >= 45, 1
	}
	w.land(0, ahead)
	if over {
		w.land(-1, 0)
		w.land(1, 0)
	}
}

// wantReached holds All and Can from a square against the squares that are to be reached.
func wantReached(t *testing.T, promise string, cells string, from int, want []int) {
	t.Helper()
	if l := reach.All(cells, from); !slices.Equal(l, want) {
		t.Errorf("%s: %q, from %d: got %v, want %v", promise, cells, from, l, want)
	}
	for to := range 90 {
		if reach.Can(cells, from, to) != slices.Contains(want, to) {
			t.Errorf("%s: %q, from %d to %d", promise, cells, from, to)
		}
	}
}

func TestReachedIsWhatIsWalked(t *testing.T) {
	for _, cells := range boards() {
		for from := range 90 {
			wantReached(t, "P5.2", cells, from, plain(cells, from))
		}
	}
	// Each piece alone on each square, too, where it may stand and where not.
	for i := range 14 {
		for from := range 90 {
			cells := with((red + black)[i:i+1], from)
			wantReached(t, "P5.2", cells, from, plain(cells, from))
		}
	}
}

func TestGenerals(t *testing.T) {
	wantReached(t, "P5.2", with("K", 13), 13, []int{4, 12, 14, 22})
	wantReached(t, "P5.2", with("K", 3), 3, []int{4, 12})
	wantReached(t, "P5.2", with("K", 23), 23, []int{14, 22})
	wantReached(t, "P5.2", with("K", 22), 22, []int{13, 21, 23})
	wantReached(t, "P5.2", with("k", 66), 66, []int{67, 75})
	wantReached(t, "P5.2", with("k", 86), 86, []int{77, 85})
	wantReached(t, "P5.2", with("k", 67), 67, []int{66, 68, 76})
	wantReached(t, "P5.2", with("KAp", 4, 3, 13), 4, []int{5, 13})
	// One that stands where it may not: into its palace alone.
	wantReached(t, "P5.2", with("K", 2), 2, []int{3})
	wantReached(t, "P5.2", with("K", 31), 31, []int{22})
	wantReached(t, "P5.2", with("K", 76), 76, nil)
	wantReached(t, "P5.2", with("k", 13), 13, nil)
	// Generals that face one another do not reach one another.
	wantReached(t, "P5.2", with("Kk", 4, 85), 4, []int{3, 5, 13})
}

func TestAdvisors(t *testing.T) {
	wantReached(t, "P5.2", with("A", 13), 13, []int{3, 5, 21, 23})
	wantReached(t, "P5.2", with("a", 76), 76, []int{66, 68, 84, 86})
	for _, n := range []int{3, 5, 21, 23} {
		wantReached(t, "P5.2", with("A", n), n, []int{13})
		wantReached(t, "P5.2", with("AC", n, 13), n, nil)
		wantReached(t, "P5.2", with("Ac", n, 13), n, []int{13})
		wantReached(t, "P5.2", with("a", 89-n), 89-n, []int{76})
	}
	// From where it may not stand: to its five squares alone.
	wantReached(t, "P5.2", with("A", 4), 4, nil)
	wantReached(t, "P5.2", with("A", 11), 11, []int{3, 21})
	wantReached(t, "P5.2", with("A", 31), 31, []int{21, 23})
	wantReached(t, "P5.2", with("A", 76), 76, nil)
}

func TestElephants(t *testing.T) {
	wantReached(t, "P5.2", with("B", 22), 22, []int{2, 6, 38, 42})
	wantReached(t, "P5.2", with("B", 2), 2, []int{18, 22})
	wantReached(t, "P5.2", with("B", 26), 26, []int{6, 42})
	// The river is not gone over.
	wantReached(t, "P5.2", with("B", 38), 38, []int{18, 22})
	wantReached(t, "P5.2", with("B", 42), 42, []int{22, 26})
	wantReached(t, "P5.2", with("b", 47), 47, []int{63, 67})
	wantReached(t, "P5.2", with("b", 51), 51, []int{67, 71})
	wantReached(t, "P5.2", with("B", 58), 58, []int{38, 42})
	// A piece half-way, of either side, and one on the square itself.
	ends := map[int]int{12: 2, 14: 6, 30: 38, 32: 42}
	for eye, end := range ends {
		want := slices.DeleteFunc([]int{2, 6, 38, 42}, func(n int) bool { return n == end })
		wantReached(t, "P5.2", with("BP", 22, eye), 22, want)
		wantReached(t, "P5.2", with("Bp", 22, eye), 22, want)
		wantReached(t, "P5.2", with("BP", 22, end), 22, want)
		wantReached(t, "P5.2", with("Bp", 22, end), 22, []int{2, 6, 38, 42})
	}
}

func TestHorses(t *testing.T) {
	all := []int{21, 23, 29, 33, 47, 51, 57, 59}
	wantReached(t, "P5.2", with("N", 40), 40, all)
	wantReached(t, "P5.2", with("n", 40), 40, all)
	wantReached(t, "P5.2", with("N", 0), 0, []int{11, 19})
	wantReached(t, "P5.2", with("n", 89), 89, []int{70, 78})
	wantReached(t, "P5.2", with("N", 8), 8, []int{15, 25})
	wantReached(t, "P5.2", with("N", 44), 44, []int{25, 33, 51, 61})
	legs := map[int][]int{31: {21, 23}, 49: {57, 59}, 39: {29, 47}, 41: {33, 51}}
	for leg, l := range legs {
		want := slices.DeleteFunc(slices.Clone(all), func(n int) bool { return slices.Contains(l, n) })
		wantReached(t, "P5.2", with("NP", 40, leg), 40, want)
		wantReached(t, "P5.2", with("Np", 40, leg), 40, want)
	}
	wantReached(t, "P5.2", with("NPpPp", 40, 31, 49, 39, 41), 40, nil)
	// Next to it aslant nothing is in its way; nor is what stands at the other leg of the square.
	wantReached(t, "P5.2", with("NPPPP", 40, 30, 32, 48, 50), 40, all)
	wantReached(t, "P5.2", with("NPp", 40, 21, 23), 40, all[1:])
}

func TestChariots(t *testing.T) {
	rank := []int{36, 37, 38, 39, 41, 42, 43, 44}
	file := []int{4, 13, 22, 31, 49, 58, 67, 76, 85}
	both := slices.Sorted(slices.Values(slices.Concat(rank, file)))
	wantReached(t, "P5.2", with("R", 40), 40, both)
	wantReached(t, "P5.2", with("r", 40), 40, both)
	for _, c := range []struct {
		pieces    string
		squares   []int
		to        int
		reachable bool
	}{
		{"R", []int{36}, 42, true}, {"Rp", []int{36, 42}, 42, true}, {"RP", []int{36, 42}, 42, false},
		{"Rp", []int{36, 39}, 42, false}, {"RP", []int{36, 39}, 42, false}, {"Rpp", []int{36, 39, 42}, 42, false}, {"RPp", []int{36, 39, 42}, 42, false},
		{"Rppp", []int{36, 38, 39, 42}, 42, false}, {"Rpp", []int{36, 38, 39}, 42, false},
		{"R", []int{4}, 85, true}, {"Rp", []int{4, 40}, 85, false}, {"Rk", []int{4, 85}, 85, true}, {"rk", []int{4, 85}, 85, false}, {"rK", []int{85, 4}, 4, true},
	} {
		wantCan(t, with(c.pieces, c.squares...), c.squares[0], c.to, c.reachable)
	}
}

func TestCannons(t *testing.T) {
	for _, c := range []struct {
		pieces    string
		squares   []int
		to        int
		reachable bool
	}{
		// None between: an empty square alone.
		{"C", []int{36}, 42, true}, {"Cp", []int{36, 42}, 42, false}, {"CP", []int{36, 42}, 42, false}, {"Cp", []int{36, 37}, 37, false},
		// One between, of either side: a piece of the other side alone.
		{"Cp", []int{36, 39}, 42, false}, {"CP", []int{36, 39}, 42, false},
		{"Cpp", []int{36, 39, 42}, 42, true}, {"CPp", []int{36, 39, 42}, 42, true}, {"CpP", []int{36, 39, 42}, 42, false}, {"CPP", []int{36, 39, 42}, 42, false},
		{"Cpp", []int{36, 37, 38}, 38, true}, {"Cpk", []int{4, 40, 85}, 85, true}, {"cPK", []int{85, 40, 4}, 4, true}, {"cpk", []int{4, 40, 85}, 85, false},
		// Two between: nothing.
		{"Cpp", []int{36, 38, 39}, 42, false}, {"Cppp", []int{36, 38, 39, 42}, 42, false}, {"CPPp", []int{36, 38, 39, 42}, 42, false}, {"CPpp", []int{4, 13, 40, 85}, 85, false},
	} {
		wantCan(t, with(c.pieces, c.squares...), c.squares[0], c.to, c.reachable)
	}
}

func wantCan(t *testing.T, cells string, from int, to int, want bool) {
	t.Helper()
	if got := reach.Can(cells, from, to); got != want {
		t.Errorf("P5.2: %q, from %d to %d: %v", cells, from, to, got)
	}
	if got := slices.Contains(reach.All(cells, from), to); got != want {
		t.Errorf("P5.2: %q, all from %d, %d among them: %v", cells, from, to, got)
	}
}

func TestPawns(t *testing.T) {
	wantReached(t, "P5.2", with("P", 27), 27, []int{36})
	wantReached(t, "P5.2", with("P", 40), 40, []int{49})
	wantReached(t, "P5.2", with("P", 49), 49, []int{48, 50, 58})
	wantReached(t, "P5.2", with("P", 45), 45, []int{46, 54})
	wantReached(t, "P5.2", with("P", 53), 53, []int{52, 62})
	wantReached(t, "P5.2", with("P", 85), 85, []int{84, 86})
	wantReached(t, "P5.2", with("P", 89), 89, []int{88})
	wantReached(t, "P5.2", with("p", 49), 49, []int{40})
	wantReached(t, "P5.2", with("p", 40), 40, []int{31, 39, 41})
	wantReached(t, "P5.2", with("p", 36), 36, []int{27, 37})
	wantReached(t, "P5.2", with("p", 44), 44, []int{35, 43})
	wantReached(t, "P5.2", with("p", 0), 0, []int{1})
	wantReached(t, "P5.2", with("Ppp", 40, 49, 31), 40, []int{49})
	wantReached(t, "P5.2", with("PPpp", 49, 58, 48, 40), 49, []int{48, 50})
	// On its own first ranks, where it may not stand, it goes ahead as well.
	wantReached(t, "P5.2", with("P", 1), 1, []int{10})
	wantReached(t, "P5.2", with("p", 88), 88, []int{79})
}

func TestNothingFromNowhere(t *testing.T) {
	for _, cells := range boards()[:20] {
		for _, a := range nowhere() {
			if l := reach.All(cells, a); len(l) != 0 {
				t.Errorf("P5.2: All from %d: %v", a, l)
			}
			for _, b := range append(nowhere(), 0, 1, 44, 45, 88, 89) {
				if reach.Can(cells, a, b) || reach.Can(cells, b, a) {
					t.Errorf("P5.2: Can of %d, %d", a, b)
				}
				if m, n := reach.Between(cells, a, b), reach.Between(cells, b, a); m != -1 || n != -1 {
					t.Errorf("P5.1: Between of %d, %d: %d, %d", a, b, m, n)
				}
			}
		}
	}
}

func TestNothingWithoutBoard(t *testing.T) {
	for _, s := range others() {
		for from := -1; from <= 90; from++ {
			if l := reach.All(s, from); len(l) != 0 {
				t.Errorf("P5.2: %q, from %d: %v", s, from, l)
			}
			for to := -1; to <= 90; to++ {
				if reach.Can(s, from, to) {
					t.Errorf("P5.2: %q, from %d to %d", s, from, to)
				}
				if n := reach.Between(s, from, to); n != -1 {
					t.Errorf("P5.1: %q, %d to %d: %d", s, from, to, n)
				}
			}
		}
	}
}

func TestBetween(t *testing.T) {
	for _, cells := range boards() {
		for a := range 90 {
			for b := range 90 {
				want := -1
				switch {
				case a == b:
				case a/9 == b/9:
					want = countOf(cells, min(a, b)+1, max(a, b), 1)
				case a%9 == b%9:
					want = countOf(cells, min(a, b)+9, max(a, b), 9)
				}
				if got := reach.Between(cells, a, b); got != want {
					t.Errorf("P5.1: %q, %d to %d: got %d, want %d", cells, a, b, got, want)
				}
			}
		}
	}
	for _, c := range [][3]int{{0, 8, 7}, {8, 0, 7}, {0, 81, 2}, {81, 0, 2}, {4, 85, 2}, {18, 26, 2}, {19, 25, 0}, {0, 1, 0}, {0, 9, 0}, {8, 9, -1}, {0, 10, -1}, {0, 80, -1}, {44, 45, -1}, {5, 5, -1}} {
		if got := reach.Between(api.Start, c[0], c[1]); got != c[2] {
			t.Errorf("P5.1: Between(%d, %d): %d", c[0], c[1], got)
		}
	}
}

// countOf is how many pieces stand on the squares from one on, step by step, ahead of another.
func countOf(cells string, first int, end int, step int) int {
	count := 0
	for n := first; n < end; n += step {
		if cells[n] != '.' {
			count++
		}
	}
	return count
}

func TestFromTheOtherSide(t *testing.T) {
	for _, cells := range boards() {
		turned := board.Turn(cells)
		for a := range 90 {
			want := reach.All(cells, a)
			got := reach.All(turned, 89-a)
			slices.Reverse(got)
			for i := range got {
				got[i] = 89 - got[i]
			}
			if !slices.Equal(got, want) {
				t.Errorf("P5.3: %q, from %d: %v, turned %v", cells, a, want, got)
			}
			for b := range 90 {
				if reach.Can(cells, a, b) != reach.Can(turned, 89-a, 89-b) || reach.Between(cells, a, b) != reach.Between(turned, 89-a, 89-b) {
					t.Errorf("P5.3: %q, from %d to %d", cells, a, b)
				}
			}
		}
	}
}

func TestSquaresAreNew(t *testing.T) {
	reach.All(api.Start, 1)[0] = 50
	if l := reach.All(api.Start, 1); !slices.Equal(l, []int{18, 20}) {
		t.Errorf("R5: %v", l)
	}
}
