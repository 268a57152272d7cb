package fen_test

import (
	"slices"
	"strconv"
	"strings"
	"testing"

	"riverbank/api"
	"riverbank/board"
	"riverbank/fen"
	"riverbank/place"
)

const (
	start = "rnbakabnr/9/1c5c1/p1p1p1p1p/9/9/P1P1P1P1P/1C5C1/9/RNBAKABNR"
	bare  = "4k4/9/9/9/9/9/9/9/9/4K4"
	tail  = " w - - 0 1"
)

func wantRead(t *testing.T, s string, want api.Position) {
	t.Helper()
	if p, e := fen.Parse(s); p != want || e != api.OK {
		t.Errorf("P4.1: %q: %#v, %d", s, p, e)
	}
}

func wantRefused(t *testing.T, s string, want api.Errno) {
	t.Helper()
	if p, e := fen.Parse(s); p != (api.Position{}) || e != want {
		t.Errorf("P4.1: %q: %#v, got %d, want %d", s, p, e, want)
	}
}

// onRank is a text in which one rank, counted from the text's beginning, is another.
func onRank(s string, i int, rank string) string {
	ranks := strings.Split(s, "/")
	ranks[i] = rank
	return strings.Join(ranks, "/")
}

// with is a board on which these pieces stand, each on its square.
func with(pieces string, squares ...int) string {
	cells := strings.Repeat(".", 90)
	for i, n := range squares {
		cells = board.Put(cells, n, pieces[i])
	}
	return cells
}

// positions are right positions of many kinds: the start, few pieces, and scattered ones.
func positions() []api.Position {
	l := []api.Position{
		{Cells: api.Start, Full: 1},
		{Cells: api.Start, Side: 1, Clock: 120, Full: 9999},
		{Cells: with("Kk", 4, 85), Full: 10},
	}
	x := uint64(88172645463325252)
	next := func(n int) int {
		x ^= x << 13
		x ^= x >> 7
		x ^= x << 17
		return int(x % uint64(n))
	}
	for range 500 {
		cells := with("")
		for _, c := range []byte("KkAaAaBbBbNNnnRRrrCCccPPPPPppppp") {
			points := place.Points(c)
			n := points[next(len(points))]
			if cells[n] == '.' && (c == 'K' || c == 'k' || next(3) > 0) {
				cells = board.Put(cells, n, c)
			}
		}
		l = append(l, api.Position{Cells: cells, Side: next(2), Clock: next(121), Full: 1 + next(9999)})
	}
	return l
}

// letters is the board of a text, told plainly, with each empty square as a digit 1.
func letters(cells string) string {
	var ranks []string
	for rank := 9; rank >= 0; rank-- {
		ranks = append(ranks, strings.ReplaceAll(cells[9*rank:9*rank+9], ".", "1"))
	}
	return strings.Join(ranks, "/")
}

func TestParseOfTwoAndSixFields(t *testing.T) {
	wantRead(t, start+tail, api.Position{Cells: api.Start, Full: 1})
	wantRead(t, start+" w", api.Position{Cells: api.Start, Full: 1})
	wantRead(t, start+" r", api.Position{Cells: api.Start, Full: 1})
	wantRead(t, start+" b", api.Position{Cells: api.Start, Side: 1, Full: 1})
	wantRead(t, start+" r - - 7 3", api.Position{Cells: api.Start, Clock: 7, Full: 3})
	wantRead(t, start+" b - - 120 9999", api.Position{Cells: api.Start, Side: 1, Clock: 120, Full: 9999})
	fields := []string{start, "w", "-", "-", "0", "1", "2", "3"}
	for n := range len(fields) + 1 {
		if n != 2 && n != 6 {
			wantRefused(t, strings.Join(fields[:n], " "), api.ErrForm)
		}
	}
}

func TestParseOfSquares(t *testing.T) {
	cells := with("KkRncN", 5, 84, 0, 89, 81, 8)
	wantRead(t, "c2k4n/9/9/9/9/9/9/9/9/R4K2N w", api.Position{Cells: cells, Full: 1})
	for _, p := range positions() {
		wantRead(t, letters(p.Cells)+" r", api.Position{Cells: p.Cells, Full: 1})
	}
}

func TestParseOfLetters(t *testing.T) {
	for _, s := range []string{"b e", "B E", "n h", "N H"} {
		own, other := s[:1], s[2:]
		wantRead(t, strings.ReplaceAll(start, own, other)+" w", api.Position{Cells: api.Start, Full: 1})
		wantRead(t, strings.Replace(start, own, other, 1)+tail, api.Position{Cells: api.Start, Full: 1})
	}
	for i := range 256 {
		c := byte(i)
		s := onRank(bare, 4, string([]byte{'2', c, '6'})) + " w"
		if strings.IndexByte("KAEBHNRCPkaebhnrcp123456789/ ", c) < 0 {
			wantRefused(t, s, api.ErrForm)
		}
		if k := strings.IndexByte("NHRCPnhrcpbe", c); k >= 0 {
			own := "NNRCPnnrcpbb"[k : k+1]
			wantRead(t, s, api.Position{Cells: with("Kk"+own, 4, 85, 47), Full: 1})
		}
	}
	// An advisor, an elephant beyond the river: read, and told by place.Check.
	for _, c := range []string{"A", "a", "B", "E"} {
		wantRefused(t, onRank(bare, 4, "2"+c+"6")+" w", api.ErrPlace)
	}
	for _, s := range []string{"é8", "8é", "\xff8", "\x008", "k.......r", "-9", "+8", "9\n", "\t9"} {
		wantRefused(t, onRank(start, 1, s)+" w", api.ErrForm)
	}
}

func TestParseOfRanks(t *testing.T) {
	right := []string{"9", "81", "18", "333", "111111111", "1r7", "r8", "8r", "4r4", "rr7", "r1r15"}
	wrong := []string{"", "0", "8", "90", "09", "91", "19", "99", "r9", "9r", "rr8", "8rr", "1r8", "r6r", "rnr5r1", "r", "rr", "........", ".........", "5 4", "44", "54r", "11111111", "1111111111", strings.Repeat("9", 1000), strings.Repeat("r", 1000)}
	for i := range 10 {
		for _, s := range wrong {
			wantRefused(t, onRank(bare, i, s)+" w", api.ErrForm)
			wantRefused(t, onRank(bare, i, s)+tail, api.ErrForm)
		}
		if i == 0 || i == 9 {
			continue
		}
		for _, s := range right {
			if _, e := fen.Parse(onRank(bare, i, s) + " w"); e != api.OK {
				t.Errorf("P4.1: rank %q: %d", s, e)
			}
		}
	}
	for _, s := range []string{"", "/", "9", start + "/", "/" + start, start + "/9", start[strings.Index(start, "/")+1:], strings.Replace(start, "/", "//", 1), strings.Replace(start, "/", "", 1), strings.Replace(start, "/", "\\", 1), strings.Repeat("/", 9), strings.Repeat("/", 5000)} {
		wantRefused(t, s+" w", api.ErrForm)
		wantRefused(t, s+tail, api.ErrForm)
	}
}

func TestParseOfSides(t *testing.T) {
	sides := map[string]int{"w": 0, "r": 0, "b": 1}
	l := []string{"", "ww", "wb", "red", "black", "0", "1", "-", "é"}
	for i := range 256 {
		if i != ' ' {
			l = append(l, string([]byte{byte(i)}))
		}
	}
	for _, s := range l {
		if side, ok := sides[s]; ok {
			wantRead(t, start+" "+s, api.Position{Cells: api.Start, Side: side, Full: 1})
			wantRead(t, start+" "+s+" - - 5 6", api.Position{Cells: api.Start, Side: side, Clock: 5, Full: 6})
		} else {
			wantRefused(t, start+" "+s, api.ErrForm)
			wantRefused(t, start+" "+s+" - - 5 6", api.ErrForm)
		}
	}
}

func TestParseOfDashes(t *testing.T) {
	for _, s := range []string{"", "x", "--", "0", "w", "+", "–", "- -"} {
		wantRefused(t, start+" w "+s+" - 0 1", api.ErrForm)
		wantRefused(t, start+" w - "+s+" 0 1", api.ErrForm)
	}
}

func TestParseOfNumbers(t *testing.T) {
	for n := range 10000 {
		clock, full := start+" w - - "+strconv.Itoa(n)+" 1", start+" w - - 0 "+strconv.Itoa(n)
		if n <= 120 {
			wantRead(t, clock, api.Position{Cells: api.Start, Clock: n, Full: 1})
		} else {
			wantRefused(t, clock, api.ErrArg)
		}
		if n >= 1 {
			wantRead(t, full, api.Position{Cells: api.Start, Full: n})
		} else {
			wantRefused(t, full, api.ErrArg)
		}
	}
	for _, s := range []string{"", "00", "01", "000", "0000", "0120", "00001", "10000", "99999", "100000", "18446744073709551617", strings.Repeat("9", 3000), "-0", "-1", "+0", "+1", "1.", "1.0", "1e1", "0x1", "0b1", "1_0", "a", "1a", "a1", "١", "1\n", "\t1", "-", "1 "} {
		wantRefused(t, start+" w - - "+s+" 1", api.ErrForm)
		wantRefused(t, start+" w - - 0 "+s, api.ErrForm)
	}
}

func TestParseOfBlanks(t *testing.T) {
	for _, s := range []string{start + " w", start + tail} {
		wantRefused(t, " "+s, api.ErrForm)
		wantRefused(t, s+" ", api.ErrForm)
		wantRefused(t, s+"\n", api.ErrForm)
		for i := range len(s) {
			if s[i] == ' ' {
				wantRefused(t, s[:i]+"  "+s[i+1:], api.ErrForm)
				wantRefused(t, s[:i]+"\t"+s[i+1:], api.ErrForm)
				wantRefused(t, s[:i]+s[i+1:], api.ErrForm)
			}
		}
	}
	wantRefused(t, "", api.ErrForm)
	wantRefused(t, " ", api.ErrForm)
	wantRefused(t, "     ", api.ErrForm)
	wantRefused(t, strings.Repeat(" ", 100000), api.ErrForm)
	wantRefused(t, start+" w"+strings.Repeat(" ", 100000), api.ErrForm)
}

func TestParseTellsWhatCheckTells(t *testing.T) {
	wantRefused(t, strings.Replace(start, "k", "1", 1)+" w", api.ErrCount)
	wantRefused(t, strings.Replace(start, "9", "4K4", 1)+" w", api.ErrCount)
	wantRefused(t, strings.Replace(start, "9", "4H4", 1)+" b", api.ErrCount)
	wantRefused(t, strings.Replace(start, "RNB", "RBN", 1)+" w", api.ErrPlace)
	wantRefused(t, "9/9/9/9/9/9/9/9/9/9 w", api.ErrCount)
	// Of several errors: the form goes ahead of all, then place.Check's own order.
	crowded := strings.Replace(strings.Replace(start, "RNB", "RBN", 1), "9", "4R4", 1)
	wantRefused(t, crowded+" w", api.ErrCount)
	wantRefused(t, crowded+" w - - 121 1", api.ErrArg)
	wantRefused(t, crowded+" w - - 0 0", api.ErrArg)
	wantRefused(t, crowded+" w - - 121 01", api.ErrForm)
	wantRefused(t, crowded+" x - - 121 0", api.ErrForm)
	wantRefused(t, crowded+"1 w - - 121 0", api.ErrForm)
	wantRefused(t, crowded+" w - - 121", api.ErrForm)
}

func TestPrint(t *testing.T) {
	for _, c := range []struct {
		p    api.Position
		want string
	}{
		{api.Position{Cells: api.Start, Full: 1}, start + tail},
		{api.Position{Cells: api.Start, Side: 1, Clock: 3, Full: 12}, start + " b - - 3 12"},
		{api.Position{Cells: api.Start, Clock: 120, Full: 9999}, start + " w - - 120 9999"},
		{api.Position{Cells: with("Kk", 4, 85), Full: 1}, bare + tail},
		{api.Position{Cells: with("KkN", 5, 84, 81), Full: 1}, "N2k5/9/9/9/9/9/9/9/9/5K3" + tail},
	} {
		if s, e := fen.Print(c.p); s != c.want || e != api.OK {
			t.Errorf("P4.2: %q, %d, want %q", s, e, c.want)
		}
	}
}

func TestPrintRefuses(t *testing.T) {
	crowded := board.Put(api.Start, 40, 'R')
	misplaced := board.Put(board.Put(api.Start, 0, 'B'), 2, 'R')
	for i, c := range []struct {
		p    api.Position
		want api.Errno
	}{
		{api.Position{}, api.ErrArg},
		{api.Position{Cells: api.Start}, api.ErrArg},
		{api.Position{Cells: api.Start, Full: 10000}, api.ErrArg},
		{api.Position{Cells: api.Start, Full: 1, Clock: -1}, api.ErrArg},
		{api.Position{Cells: api.Start, Full: 1, Clock: 121}, api.ErrArg},
		{api.Position{Cells: api.Start, Full: 1, Side: -1}, api.ErrArg},
		{api.Position{Cells: api.Start, Full: 1, Side: 2}, api.ErrArg},
		{api.Position{Cells: api.Start[1:], Full: 1}, api.ErrArg},
		{api.Position{Cells: strings.Replace(api.Start, "N", "H", 1), Full: 1}, api.ErrArg},
		{api.Position{Cells: crowded, Full: 1}, api.ErrCount},
		{api.Position{Cells: crowded}, api.ErrArg},
		{api.Position{Cells: misplaced, Full: 1}, api.ErrPlace},
		{api.Position{Cells: board.Put(misplaced, 4, '.'), Full: 1}, api.ErrCount},
	} {
		if s, e := fen.Print(c.p); s != "" || e != c.want {
			t.Errorf("P4.2: case %d: %q, got %d, want %d", i, s, e, c.want)
		}
	}
}

func TestPrintedIsRead(t *testing.T) {
	for _, p := range positions() {
		s, e := fen.Print(p)
		if e != api.OK {
			t.Fatalf("P4.2: %#v: %d", p, e)
		}
		wantPlain(t, s, p)
		wantRead(t, s, p)
		q, _ := fen.Parse(s)
		if again, _ := fen.Print(q); again != s {
			t.Errorf("P4.3: %q, printed again: %q", s, again)
		}
	}
}

// wantPlain holds a printed text against what the chapter says of its fields.
func wantPlain(t *testing.T, s string, p api.Position) {
	t.Helper()
	fields := strings.Split(s, " ")
	want := []string{"w", "-", "-", strconv.Itoa(p.Clock), strconv.Itoa(p.Full)}
	if p.Side == 1 {
		want[0] = "b"
	}
	if len(fields) != 6 || !slices.Equal(fields[1:], want) {
		t.Errorf("P4.2: %q", s)
		return
	}
	isDigit := func(c byte) bool { return '1' <= c && c <= '9' }
	spread := ""
	for i := range len(fields[0]) {
		c := fields[0][i]
		if isDigit(c) {
			spread += strings.Repeat("1", int(c-'0'))
		} else {
			spread += string(rune(c))
		}
		if i > 0 && isDigit(c) && isDigit(fields[0][i-1]) {
			t.Errorf("P4.2: %q: a row of empty squares as two digits", s)
		}
	}
	if spread != letters(p.Cells) {
		t.Errorf("P4.2: %q: %q", s, p.Cells)
	}
}

func TestReadAndPrintedIsTheSame(t *testing.T) {
	for _, p := range positions() {
		// A text as no position is printed: each empty square by itself, other letters, r for red.
		s := strings.NewReplacer("b", "e", "B", "E", "n", "h", "N", "H").Replace(letters(p.Cells))
		side := []string{"r", "b"}[p.Side]
		for _, rest := range []string{"", " - - " + strconv.Itoa(p.Clock) + " " + strconv.Itoa(p.Full)} {
			read, e := fen.Parse(s + " " + side + rest)
			if e != api.OK || read.Cells != p.Cells {
				t.Fatalf("P4.3: %q: %#v, %d", s, read, e)
			}
			printed, e := fen.Print(read)
			if e != api.OK {
				t.Errorf("P4.3: %#v: %d", read, e)
			}
			wantRead(t, printed, read)
		}
	}
}

func FuzzParse(f *testing.F) {
	for _, s := range []string{"", start, start + " w", start + tail, bare + " b - - 120 9999", strings.ReplaceAll(start, "b", "e") + " r", start + " w - - 00 1"} {
		f.Add(s)
	}
	f.Fuzz(func(t *testing.T, s string) {
		p, e := fen.Parse(s)
		if e != api.OK {
			if p != (api.Position{}) {
				t.Errorf("R3: %q: %#v, %d", s, p, e)
			}
			return
		}
		if place.Check(p) != api.OK {
			t.Errorf("P4.1: %q: %#v", s, p)
		}
		printed, e := fen.Print(p)
		if again, e2 := fen.Parse(printed); e != api.OK || e2 != api.OK || again != p {
			t.Errorf("P4.3: %q: %q, %d, %d", s, printed, e, e2)
		}
	})
}
