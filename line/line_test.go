package line_test

import (
	"fmt"
	"math"
	"regexp"
	"slices"
	"strings"
	"testing"

	"riverbank/api"
	"riverbank/check"
	"riverbank/fen"
	"riverbank/iccs"
	"riverbank/line"
	"riverbank/place"
)

const (
	startBoard = "rnbakabnr/9/1c5c1/p1p1p1p1p/9/9/P1P1P1P1P/1C5C1/9/RNBAKABNR"
	bareBoard  = "4k4/9/9/9/9/9/9/9/9/3K5"
)

var (
	start = api.Position{Cells: api.Start, Full: 1}
	bare  = api.Position{Cells: with("Kk", 3, 85), Full: 1}
	first = api.Move{From: 25, To: 22}
)

// with is an empty board on which these pieces stand, each on its square.
func with(pieces string, squares ...int) string {
	cells := []byte(strings.Repeat(".", api.Squares))
	for i, n := range squares {
		cells[n] = pieces[i]
	}
	return string(cells)
}

// random is a row of numbers that is the same each time.
type random uint64

// below is its next one, from 0 on.
func (r *random) below(n int) int {
	*r ^= *r << 13
	*r ^= *r >> 7
	*r ^= *r << 17
	return int(*r % random(n))
}

// of is one of some texts.
func (r *random) of(l ...string) string { return l[r.below(len(l))] }

func same(a line.Command, b line.Command) bool {
	return a.Kind == b.Kind && a.Position == b.Position && a.Depth == b.Depth && slices.Equal(a.Moves, b.Moves)
}

func wantRead(t *testing.T, s string, want line.Command) {
	t.Helper()
	if c, e := line.Parse(s); !same(c, want) || e != api.OK {
		t.Errorf("P23.2: %.90q: got %v, %d, want %v", s, c, e, want)
	}
}

func wantRefused(t *testing.T, s string, want api.Errno) {
	t.Helper()
	if c, e := line.Parse(s); !same(c, line.Command{}) || e != want {
		t.Errorf("P23.2: %.90q: got %v, %d, want %d", s, c, e, want)
	}
}

func wantPrinted(t *testing.T, c line.Command, want string) {
	t.Helper()
	if s := line.Print(c); s != want {
		t.Errorf("P23.3: %v: got %.90q, want %.90q", c, s, want)
	}
}

func wantWords(t *testing.T, s string, want ...string) {
	t.Helper()
	if l := line.Words(s); !slices.Equal(l, want) {
		t.Errorf("P23.1: %.90q: got %.90q, want %.90q", s, l, want)
	}
}

// The lines, as patterns of words with one blank between any two. A short text of a position goes ahead of a long one.
var (
	word    = regexp.MustCompile(`[^ \t]+`)
	alone   = regexp.MustCompile(`^(ucci|isready|probe|stop|quit)$`)
	goDepth = regexp.MustCompile(`^go depth ([1-9]|[1-5][0-9]|6[0-4])$`)
	bans    = regexp.MustCompile(`^banmoves(?: ([^\n]+))?$`)
	begins  = regexp.MustCompile(`^position startpos(?: moves(?: ([^\n]+))?)?$`)
	short   = regexp.MustCompile(`^position fen ([^ ]+ [^ ]+)(?: moves(?: ([^\n]+))?)?$`)
	long    = regexp.MustCompile(`^position fen ([^ ]+ [^ ]+ [^ ]+ [^ ]+ [^ ]+ [^ ]+)(?: moves(?: ([^\n]+))?)?$`)
)

// plain reads a line by these patterns.
func plain(s string) (line.Command, api.Errno) {
	if len(s) > 4096 || strings.Contains(s, "\x0a") || strings.Contains(s, "\x0d") {
		return line.Command{}, api.ErrLine
	}
	s = strings.Join(word.FindAllString(s, -1), " ")
	if m := alone.FindStringSubmatch(s); m != nil {
		kinds := []string{"", "ucci", "isready", "", "", "", "probe", "stop", "quit"}
		return line.Command{Kind: slices.Index(kinds, m[1])}, api.OK
	}
	if m := goDepth.FindStringSubmatch(s); m != nil {
		depth := 0
		fmt.Sscan(m[1], &depth)
		return line.Command{Kind: 5, Depth: depth}, api.OK
	}
	if m := bans.FindStringSubmatch(s); m != nil {
		return plainMoves(line.Command{Kind: 4}, m[1])
	}
	if m := begins.FindStringSubmatch(s); m != nil {
		return plainMoves(line.Command{Kind: 3, Position: start}, m[1])
	}
	for _, kind := range []*regexp.Regexp{short, long} {
		if m := kind.FindStringSubmatch(s); m != nil {
			p, e := fen.Parse(m[1])
			if e != api.OK {
				return line.Command{}, e
			}
			return plainMoves(line.Command{Kind: 3, Position: p}, m[2])
		}
	}
	return line.Command{}, api.ErrLine
}

// plainMoves is a command with the moves of a text.
func plainMoves(c line.Command, s string) (line.Command, api.Errno) {
	for _, w := range word.FindAllString(s, -1) {
		m, e := iccs.Parse(w)
		if e != api.OK {
			return line.Command{}, e
		}
		c.Moves = append(c.Moves, m)
	}
	return c, api.OK
}

// asPlain wants a line to be read as its pattern tells, and what is read to be printed so that it is read again.
func asPlain(t *testing.T, s string) api.Errno {
	t.Helper()
	want, wantE := plain(s)
	got, e := line.Parse(s)
	if !same(got, want) || e != wantE {
		t.Errorf("P23.2: %.90q: got %v, %d, want %v, %d", s, got, e, want, wantE)
	}
	if wantE == api.OK {
		again(t, got)
	}
	return wantE
}

// again wants a command's line to be read as just that command, and to be printed in one way.
func again(t *testing.T, c line.Command) {
	t.Helper()
	s := line.Print(c)
	if got, e := line.Parse(s); !same(got, c) || e != api.OK {
		t.Errorf("P23.4: %v is printed %.90q, which is read as %v, %d", c, s, got, e)
	}
	if strings.Join(line.Words(s), " ") != s {
		t.Errorf("P23.3: %v: not one blank between any two words: %.90q", c, s)
	}
}

func TestExample(t *testing.T) {
	wantRead(t, "position startpos moves h2e2", line.Command{Kind: line.Set, Position: start, Moves: []api.Move{first}})
}

func TestKinds(t *testing.T) {
	if l := []int{line.Ucci, line.Ready, line.Set, line.Ban, line.Go, line.Probe, line.Stop, line.Quit}; !slices.Equal(l, []int{1, 2, 3, 4, 5, 6, 7, 8}) {
		t.Errorf("the kinds are %v", l)
	}
}

func TestWords(t *testing.T) {
	wantWords(t, "")
	wantWords(t, " ")
	wantWords(t, "\t")
	wantWords(t, " \t \t\t ")
	wantWords(t, "a", "a")
	wantWords(t, "one two", "one", "two")
	wantWords(t, " one two ", "one", "two")
	wantWords(t, "\tone\ttwo\t", "one", "two")
	wantWords(t, "b\t a  \t\t c a", "b", "a", "c", "a")
	wantWords(t, "a,b;c=d", "a,b;c=d")
	wantWords(t, "ä \xff\xfe \xc3", "ä", "\xff\xfe", "\xc3")
	wantWords(t, "a\u00a0b a\u2003b a\u3000b", "a\u00a0b", "a\u2003b", "a\u3000b")
}

func TestWordsOfEachByte(t *testing.T) {
	for c := range 256 {
		s := string([]byte{byte(c)})
		if s == " " || s == "\t" {
			wantWords(t, s)
			wantWords(t, "ab"+s+"cd", "ab", "cd")
			wantWords(t, s+s+"ab"+s+s+"cd"+s, "ab", "cd")
			continue
		}
		wantWords(t, s, s)
		wantWords(t, "ab"+s+"cd", "ab"+s+"cd")
		wantWords(t, s+" "+s+s+"\t"+s, s, s+s, s)
	}
}

func TestWordsOfLongLines(t *testing.T) {
	whole := strings.Repeat("a", 4096)
	wantWords(t, whole, whole)
	wantWords(t, whole+"a")
	wantWords(t, whole+" ")
	wantWords(t, " "+whole)
	wantWords(t, whole[:4095]+" ", whole[:4095])
	wantWords(t, strings.Repeat(" ", 4095)+"a", "a")
	wantWords(t, strings.Repeat(" ", 4096)+"a")
	wantWords(t, "a"+strings.Repeat("\t", 4096))
	wantWords(t, strings.Repeat("a ", 2048), slices.Repeat([]string{"a"}, 2048)...)
	wantWords(t, strings.Repeat("a ", 2048)+"a")
	wantWords(t, strings.Repeat("a ", 500000))
}

func TestWordsAnyhow(t *testing.T) {
	r := random(88172645463325252)
	for range 3000 {
		var want []string
		s := r.of("", " ", "\t", "\t  ")
		for range r.below(9) {
			w := r.of("a", "go", "ucci", "\n", "\r", "\x00", "h2-e2", "-", startBoard, "\xe4\xb8\xad")
			want = append(want, w)
			s += w + r.of(" ", "\t", "  ", " \t", "\t\t\t")
		}
		wantWords(t, s, want...)
		wantWords(t, strings.TrimRight(s, " \t"), want...)
	}
}

func TestWordsAreNew(t *testing.T) {
	l := line.Words("a b c")
	l[0], l[1], l[2] = "x", "y", "z"
	wantWords(t, "a b c", "a", "b", "c")
}

func TestAlone(t *testing.T) {
	for s, kind := range map[string]int{"ucci": line.Ucci, "isready": line.Ready, "probe": line.Probe, "stop": line.Stop, "quit": line.Quit} {
		c := line.Command{Kind: kind}
		for _, text := range []string{s, " " + s, s + " ", "\t" + s + "\t", "  \t " + s + " \t  "} {
			wantRead(t, text, c)
		}
		for _, text := range []string{s + " x", s + " " + s, s + " moves", s + "\tdepth 1", "x " + s, "- " + s, s + s, s + ".", s + "\x00", "\x00" + s, s + "\v", s + "\u00a0", s[:len(s)-1], s[1:], strings.ToUpper(s), strings.ToUpper(s[:1]) + s[1:]} {
			wantRefused(t, text, api.ErrLine)
		}
		for i := 1; i < len(s); i++ {
			wantRefused(t, s[:i]+" "+s[i:], api.ErrLine)
		}
	}
	for _, s := range []string{"", " ", "\t", " \t ", "x", "uci", "ready", "position", "go", "startpos", "fen", "moves", "depth", "depth 1", "h2e2", "1", "-", "\x00", "setoption x", "banmove", "banmoves-", "Banmoves", "Position startpos", "position Startpos", "GO depth 1", "go DEPTH 1"} {
		wantRefused(t, s, api.ErrLine)
	}
}

func TestGo(t *testing.T) {
	for n := -100; n <= 300; n++ {
		s := fmt.Sprintf("go depth %d", n)
		if n >= 1 && n <= 64 {
			wantRead(t, s, line.Command{Kind: line.Go, Depth: n})
			wantRead(t, "\tgo \t depth  "+s[len("go depth "):]+" ", line.Command{Kind: line.Go, Depth: n})
		} else {
			wantRefused(t, s, api.ErrLine)
		}
		wantRefused(t, fmt.Sprintf("go depth 0%d", n), api.ErrLine)
		wantRefused(t, fmt.Sprintf("go depth +%d", n), api.ErrLine)
		wantRefused(t, fmt.Sprintf("go depth %d x", n), api.ErrLine)
	}
	for _, s := range []string{"go", "go depth", "go 1", "go depth1", "godepth 1", "go depth 1 2", "go depth 1 depth 2", "go depth 1 moves h2e2", "go depth 1 1", "go nodes 1", "go time 1", "go depht 1", "go depth depth", "go depth one", "go depth 1.0", "go depth 1e1", "go depth 0x1", "go depth 1_0", "go depth 1-", "go depth -", "go depth 00", "go depth 001", "go depth 064", "go depth 100", "go depth 640", "go depth 4294967297", "go depth 18446744073709551617", "go depth " + strings.Repeat("9", 4000), "go depth " + strings.Repeat("0", 4000) + "1", "go depth ١", "go depth １", "go go depth 1", "depth go 1", "1 depth go", "go 1 depth"} {
		wantRefused(t, s, api.ErrLine)
	}
}

func TestBan(t *testing.T) {
	second := api.Move{From: 89, To: 0}
	ban := func(l ...api.Move) line.Command { return line.Command{Kind: line.Ban, Moves: l} }
	wantRead(t, "banmoves", ban())
	wantRead(t, "\tbanmoves ", ban())
	wantRead(t, "banmoves h2e2", ban(first))
	wantRead(t, "banmoves H2-E2 i9A0", ban(first, second))
	wantRead(t, "banmoves i9a0  h2e2\ti9-a0", ban(second, first, second))
	// Whether a move may be made is not asked.
	wantRead(t, "banmoves a0a0 e4e5", ban(api.Move{}, api.Move{From: 40, To: 49}))
	for _, s := range []string{"banmoves h2", "banmoves h2 e2", "banmoves h2e", "banmoves h2e2e2", "banmoves h2e2 x", "banmoves x h2e2", "banmoves h2e2 x h2e2", "banmoves h2=e2", "banmoves j0a0", "banmoves moves", "banmoves moves h2e2", "banmoves C2=5", "banmoves -", "banmoves h2e2,h2e2", "banmoves banmoves", "banmoves startpos", "banmoves fen", "banmoves " + startBoard + " w", "banmoves \xff", "banmoves \x00", "banmoves h2e2\x00", "banmoves h2e2\v"} {
		wantRefused(t, s, api.ErrForm)
	}
}

func TestMany(t *testing.T) {
	most := (4096 - len("banmoves")) / len(" a0a1")
	up := api.Move{To: 9}
	for _, n := range []int{1, 2, 100, 512, most} {
		many := slices.Repeat([]api.Move{up}, n)
		wantRead(t, "banmoves"+strings.Repeat(" a0a1", n), line.Command{Kind: line.Ban, Moves: many})
	}
	wantRefused(t, "banmoves"+strings.Repeat(" a0a1", most+1), api.ErrLine)
	wantRefused(t, "banmoves"+strings.Repeat(" a0a1", 1025), api.ErrLine)
	most = (4096 - len("position startpos moves")) / len(" a0a1")
	many := slices.Repeat([]api.Move{up}, most)
	wantRead(t, "position startpos moves"+strings.Repeat(" a0a1", most), line.Command{Kind: line.Set, Position: start, Moves: many})
	// More words than there may be moves: the first one that is none is told ahead of that.
	for _, n := range []int{1023, 1024, 1025, 1026, 2000} {
		wantRefused(t, "banmoves"+strings.Repeat(" x", n), api.ErrForm)
		wantRefused(t, "position startpos moves"+strings.Repeat(" x", n), api.ErrForm)
		wantRefused(t, "position fen "+startBoard+" b moves"+strings.Repeat("\tx", n), api.ErrForm)
		wantRefused(t, "position startpos"+strings.Repeat(" x", n), api.ErrLine)
	}
}

func TestStartpos(t *testing.T) {
	set := func(l ...api.Move) line.Command {
		return line.Command{Kind: line.Set, Position: start, Moves: l}
	}
	wantRead(t, "position startpos", set())
	wantRead(t, " position\t\tstartpos\t", set())
	wantRead(t, "position startpos moves", set())
	wantRead(t, "position startpos moves h2e2", set(first))
	wantRead(t, "position startpos  moves\tH2-E2 h2E2", set(first, first))
	for _, s := range []string{"position", "position x", "position moves", "position moves h2e2", "position startpos x", "position startpos h2e2", "position startpos startpos", "position startpos move h2e2", "position startpos Moves h2e2", "position startpos movesh2e2", "position startpos h2e2 moves", "position startpos fen", "position startpos w", "position startpos fen " + startBoard + " w", "position x moves", "startpos", "startpos position", "positionstartpos", "position " + startBoard + " w", "position startposmoves"} {
		wantRefused(t, s, api.ErrLine)
	}
	for _, s := range []string{"position startpos moves moves", "position startpos moves h2e2 moves h2e2", "position startpos moves x", "position startpos moves h2e2 h9g", "position startpos moves h2 e2", "position startpos moves startpos"} {
		wantRefused(t, s, api.ErrForm)
	}
}

func TestFen(t *testing.T) {
	set := func(p api.Position, l ...api.Move) line.Command {
		return line.Command{Kind: line.Set, Position: p, Moves: l}
	}
	black := api.Position{Cells: api.Start, Side: 1, Full: 1}
	late := api.Position{Cells: api.Start, Side: 1, Clock: 120, Full: 9999}
	wantRead(t, "position fen "+startBoard+" w", set(start))
	wantRead(t, "position fen "+startBoard+" r", set(start))
	wantRead(t, "position fen "+startBoard+" b", set(black))
	wantRead(t, "position fen "+startBoard+" w - - 0 1", set(start))
	wantRead(t, "position fen "+startBoard+" b - - 120 9999", set(late))
	wantRead(t, "position\tfen  "+startBoard+"\tb - \t -\t120\t9999 ", set(late))
	wantRead(t, "position fen "+startBoard+" b moves", set(black))
	wantRead(t, "position fen "+startBoard+" b moves h2e2 h2e2", set(black, first, first))
	wantRead(t, "position fen "+startBoard+" b - - 120 9999 moves", set(late))
	wantRead(t, "position fen "+startBoard+" b - - 120 9999\tmoves H2-E2", set(late, first))
	wantRead(t, "position fen "+bareBoard+" w moves d0d1", set(bare, api.Move{From: 3, To: 12}))
	// Generals that face one another, and one that could be taken, are nothing that a text may not tell.
	wantRead(t, "position fen 4k4/9/9/9/9/9/9/9/9/4K4 w", set(api.Position{Cells: with("Kk", 4, 85), Full: 1}))
	wantRead(t, "position fen 4k4/9/9/9/4R4/9/9/9/9/3K5 w", set(api.Position{Cells: with("KkR", 3, 85, 49), Full: 1}))
}

func TestFenOfOtherWords(t *testing.T) {
	words := []string{startBoard, "w", "-", "-", "0", "1", "x", "y", "z"}
	// By how many of these words stand there; ErrForm: two or six words are the text, but of no position. Else it is no line.
	tails := map[string]map[int]api.Errno{
		"":            {2: api.OK, 6: api.OK},
		" moves":      {1: api.ErrForm, 2: api.OK, 5: api.ErrForm, 6: api.OK},
		" moves h2e2": {0: api.ErrForm, 2: api.OK, 4: api.ErrForm, 6: api.OK},
		" h2e2 moves": {0: api.ErrForm, 1: api.ErrForm, 4: api.ErrForm, 5: api.ErrForm},
	}
	for n := range len(words) + 1 {
		head := strings.Join(append([]string{"position", "fen"}, words[:n]...), " ")
		for tail, wants := range tails {
			want, ok := wants[n]
			if !ok {
				want = api.ErrLine
			}
			if got := asPlain(t, head+tail); got != want {
				t.Errorf("P23.2: %q: got %d, want %d", head+tail, got, want)
			}
		}
	}
	// Behind two words the line ends, or moves begin; behind six, too: whatever the words are.
	for _, s := range []string{"moves w", "w moves", "moves moves", "moves moves moves", "a b moves", "a b moves - 0 1", "a moves moves x", "a b moves moves", "a b c d e f", "a b c d e moves", "a b c moves e f", "a b c d moves f", "a b c d moves h2e2", "a b c d e f moves", "a b c d e f moves x", "a b c d e moves moves", "fen w", "startpos moves", "h2e2 h2e2", startBoard + "  w\tmoves moves"} {
		wantRefused(t, "position fen "+s, api.ErrForm)
	}
	for _, s := range []string{"", "moves", "startpos", "a moves b", "a b c", "a b c moves", "a b c d", "a b c d moves", "a b c d moves h2e2 h2e2", "a b c d e", "a b c d e f g", "a b c d e f g moves", "a b c moves e f g", "a b c d e f h2e2", "a b h2e2 moves", "a b c d e f g h"} {
		wantRefused(t, "position fen "+s, api.ErrLine)
	}
}

// TestFirst tells which error goes ahead of which.
func TestFirst(t *testing.T) {
	places := map[string]api.Errno{
		"9/9 w": api.ErrForm, startBoard + " x": api.ErrForm, startBoard + " w - - 0 01": api.ErrForm, startBoard + " - - - 0 1": api.ErrForm, startBoard + " w - - 0 10000": api.ErrForm,
		startBoard + " w - - 121 1": api.ErrArg, startBoard + " w - - 0 0": api.ErrArg,
		"4k4/9/9/9/9/9/9/9/9/9 w": api.ErrCount, "3kk4/9/9/9/9/9/9/9/9/3K5 b - - 0 1": api.ErrCount, "9/9/9/9/9/9/9/9/9/9 w": api.ErrCount,
		"4k4/9/9/9/9/9/9/9/9/K8 w": api.ErrPlace, "4k4/9/9/9/9/9/9/9/P8/3K5 w": api.ErrPlace,
	}
	for text, want := range places {
		for _, tail := range []string{"", " moves", " moves h2e2", " moves x", " moves h2e2 x h2e2"} {
			wantRefused(t, "position fen "+text+tail, want)
		}
		for _, tail := range []string{" x", " h2e2", " h2e2 moves x"} {
			wantRefused(t, "position fen "+text+tail, api.ErrLine)
			wantRefused(t, "position fen "+text+tail+"\n", api.ErrLine)
		}
		wantRefused(t, "position fen "+text+strings.Repeat(" ", 4096), api.ErrLine)
		wantRefused(t, "position fen "+text+"\r", api.ErrLine)
	}
	for _, text := range []string{"startpos", "fen " + startBoard + " b", "fen " + startBoard + " b - - 0 1"} {
		wantRefused(t, "position "+text+" moves x", api.ErrForm)
		wantRefused(t, "position "+text+" moves x\n", api.ErrLine)
		wantRefused(t, "position "+text+" moves x"+strings.Repeat(" ", 4096), api.ErrLine)
		wantRefused(t, "position "+text+" x", api.ErrLine)
	}
}

// lines are some of each kind.
func lines() []string {
	return []string{"ucci", "isready", "probe", "stop", "quit", "go depth 7", "go depth 64", "banmoves", "banmoves h2e2 a0-a1", "position startpos", "position startpos moves h2e2", "position fen " + bareBoard + " w", "position fen " + bareBoard + " w moves d0d1", "position fen " + startBoard + " b - - 12 30", "position fen " + startBoard + " b - - 12 30 moves h9g7 h2e2"}
}

func TestLineEnds(t *testing.T) {
	for _, s := range lines() {
		for i := range len(s) + 1 {
			for _, end := range []string{"\n", "\r", "\r\n"} {
				wantRefused(t, s[:i]+end+s[i:], api.ErrLine)
			}
		}
		wantRefused(t, s+" \n", api.ErrLine)
		wantRefused(t, "\n "+s, api.ErrLine)
	}
}

func TestLongLines(t *testing.T) {
	for _, s := range lines() {
		c, _ := plain(s)
		room := 4096 - len(s)
		for _, c1 := range []string{" ", "\t"} {
			wantRead(t, s+strings.Repeat(c1, room), c)
			wantRead(t, strings.Repeat(c1, room)+s, c)
			wantRefused(t, s+strings.Repeat(c1, room+1), api.ErrLine)
			wantRefused(t, strings.Repeat(c1, room+1)+s, api.ErrLine)
			wantRefused(t, s+strings.Repeat(c1, 100000), api.ErrLine)
		}
	}
}

// TestEachByte puts each byte in the place of each one of a line, and between any two.
func TestEachByte(t *testing.T) {
	seen := map[api.Errno]int{}
	for _, s := range lines() {
		for i := range len(s) {
			for c := range 256 {
				b := string([]byte{byte(c)})
				seen[asPlain(t, s[:i]+b+s[i+1:])]++
				seen[asPlain(t, s[:i]+b+s[i:])]++
			}
			seen[asPlain(t, s[:i]+s[i+1:])]++
		}
	}
	for _, e := range []api.Errno{api.OK, api.ErrArg, api.ErrCount, api.ErrForm, api.ErrLine} {
		if seen[e] == 0 {
			t.Errorf("P23.2: too little was seen: %v", seen)
		}
	}
}

// TestAllLines goes through all lines of some words.
func TestAllLines(t *testing.T) {
	seen := map[api.Errno]int{}
	vocabulary := []string{"position", "startpos", "fen", "moves", "h2e2", bareBoard, "w", "-", "1", "banmoves", "go", "depth", "quit"}
	var from func(s string, n int)
	from = func(s string, n int) {
		seen[asPlain(t, s)]++
		if n == 0 {
			return
		}
		for _, w := range vocabulary {
			from(s+w+" ", n-1)
		}
	}
	from("", 4)
	from("position fen ", 3)
	from("position fen "+bareBoard+" w ", 3)
	from("position fen "+bareBoard+" w - - 1 1 ", 3)
	from("position fen "+bareBoard+" w - ", 4)
	from("position startpos moves ", 2)
	for _, e := range []api.Errno{api.OK, api.ErrForm, api.ErrLine} {
		if seen[e] < 20 {
			t.Errorf("P23.2: too little was seen: %v", seen)
		}
	}
}

func TestParseIsNew(t *testing.T) {
	s := "banmoves h2e2 h2e2"
	c, _ := line.Parse(s)
	c.Moves[0], c.Moves[1] = api.Move{}, api.Move{}
	wantRead(t, s, line.Command{Kind: line.Ban, Moves: []api.Move{first, first}})
}

func TestPrint(t *testing.T) {
	black := api.Position{Cells: api.Start, Side: 1, Full: 1}
	move := []api.Move{first}
	for _, c := range []struct {
		c    line.Command
		want string
	}{
		{line.Command{Kind: line.Ucci}, "ucci"}, {line.Command{Kind: line.Ready}, "isready"}, {line.Command{Kind: line.Probe}, "probe"}, {line.Command{Kind: line.Stop}, "stop"}, {line.Command{Kind: line.Quit}, "quit"},
		{line.Command{Kind: line.Go, Depth: 1}, "go depth 1"}, {line.Command{Kind: line.Go, Depth: 10}, "go depth 10"}, {line.Command{Kind: line.Go, Depth: 64}, "go depth 64"},
		{line.Command{Kind: line.Ban}, "banmoves"}, {line.Command{Kind: line.Ban, Moves: []api.Move{}}, "banmoves"}, {line.Command{Kind: line.Ban, Moves: move}, "banmoves h2e2"},
		{line.Command{Kind: line.Ban, Moves: []api.Move{first, {}, {From: 89}, first}}, "banmoves h2e2 a0a0 i9a0 h2e2"},
		{line.Command{Kind: line.Set, Position: start}, "position startpos"}, {line.Command{Kind: line.Set, Position: start, Moves: []api.Move{}}, "position startpos"},
		{line.Command{Kind: line.Set, Position: start, Moves: move}, "position startpos moves h2e2"}, {line.Command{Kind: line.Set, Position: start, Moves: []api.Move{first, {To: 89}}}, "position startpos moves h2e2 a0i9"},
		{line.Command{Kind: line.Set, Position: black}, "position fen " + startBoard + " b - - 0 1"},
		{line.Command{Kind: line.Set, Position: black, Moves: move}, "position fen " + startBoard + " b - - 0 1 moves h2e2"},
		{line.Command{Kind: line.Set, Position: api.Position{Cells: api.Start, Clock: 1, Full: 1}}, "position fen " + startBoard + " w - - 1 1"},
		{line.Command{Kind: line.Set, Position: api.Position{Cells: api.Start, Full: 2}}, "position fen " + startBoard + " w - - 0 2"},
		{line.Command{Kind: line.Set, Position: api.Position{Cells: api.Start, Side: 1, Clock: 120, Full: 9999}}, "position fen " + startBoard + " b - - 120 9999"},
		{line.Command{Kind: line.Set, Position: bare}, "position fen " + bareBoard + " w - - 0 1"},
		{line.Command{Kind: line.Set, Position: api.Position{Cells: with("Kk", 4, 85), Full: 1}}, "position fen 4k4/9/9/9/9/9/9/9/9/4K4 w - - 0 1"},
	} {
		wantPrinted(t, c.c, c.want)
	}
}

// TestPrintPassesOver tells that fields are of no moment that a kind does not name.
func TestPrintPassesOver(t *testing.T) {
	for _, p := range []api.Position{{}, start, bare, {Cells: "x", Side: 7, Clock: -1}} {
		for _, l := range [][]api.Move{nil, {first}, {{From: -1}}, {{To: 90}}} {
			for _, depth := range []int{math.MinInt, -1, 0, 1, 9, 65, math.MaxInt} {
				for kind, want := range map[int]string{line.Ucci: "ucci", line.Ready: "isready", line.Probe: "probe", line.Stop: "stop", line.Quit: "quit"} {
					wantPrinted(t, line.Command{Kind: kind, Position: p, Moves: l, Depth: depth}, want)
				}
				wantPrinted(t, line.Command{Kind: line.Go, Position: p, Moves: l, Depth: 12}, "go depth 12")
				wantPrinted(t, line.Command{Kind: line.Ban, Position: p, Moves: []api.Move{first}, Depth: depth}, "banmoves h2e2")
				wantPrinted(t, line.Command{Kind: line.Set, Position: start, Moves: []api.Move{first}, Depth: depth}, "position startpos moves h2e2")
			}
		}
	}
}

func TestPrintOfNothing(t *testing.T) {
	for _, kind := range []int{math.MinInt, -1, 0, 9, 10, 1 << 32, 1<<32 + 1, math.MaxInt} {
		wantPrinted(t, line.Command{Kind: kind}, "")
		wantPrinted(t, line.Command{Kind: kind, Position: start, Moves: []api.Move{first}, Depth: 1}, "")
	}
	for _, depth := range []int{math.MinInt, -64, -1, 0, 65, 66, 100, 256 + 1, 1 << 32, 1<<32 + 1, math.MaxInt} {
		wantPrinted(t, line.Command{Kind: line.Go, Depth: depth}, "")
	}
	for _, n := range []int{math.MinInt, -1, 90, 91, math.MaxInt} {
		for _, m := range []api.Move{{From: n}, {To: n}, {From: n, To: n}} {
			for _, l := range [][]api.Move{{m}, {first, m}, {m, first}, {first, m, first}} {
				wantPrinted(t, line.Command{Kind: line.Ban, Moves: l}, "")
				wantPrinted(t, line.Command{Kind: line.Set, Position: start, Moves: l}, "")
				wantPrinted(t, line.Command{Kind: line.Set, Position: bare, Moves: l}, "")
			}
		}
	}
	for _, p := range []api.Position{{}, {Cells: api.Start}, {Cells: api.Start, Full: 10000}, {Cells: api.Start, Side: 2, Full: 1}, {Cells: api.Start, Side: -1, Full: 1}, {Cells: api.Start, Clock: -1, Full: 1}, {Cells: api.Start, Clock: 121, Full: 1}, {Cells: api.Start[1:], Full: 1}, {Cells: api.Start + ".", Full: 1}, {Cells: with(""), Full: 1}, {Cells: with("Kk", 0, 85), Full: 1}, {Cells: with("KkK", 3, 85, 4), Full: 1}} {
		for _, l := range [][]api.Move{nil, {first}} {
			wantPrinted(t, line.Command{Kind: line.Set, Position: p, Moves: l}, "")
		}
	}
}

func TestPrintLeavesItsCommand(t *testing.T) {
	l := []api.Move{first, {To: 9}, {From: 89}}
	for _, kind := range []int{line.Ban, line.Set} {
		line.Print(line.Command{Kind: kind, Position: start, Moves: l})
		if !slices.Equal(l, []api.Move{first, {To: 9}, {From: 89}}) {
			t.Errorf("R5: the moves were changed: %v", l)
		}
	}
}

// TestPrintMany prints more than may be read.
func TestPrintMany(t *testing.T) {
	for _, n := range []int{819, 1024, 1025, 3000} {
		l := slices.Repeat([]api.Move{first}, n)
		for head, c := range map[string]line.Command{"banmoves": {Kind: line.Ban, Moves: l}, "position startpos moves": {Kind: line.Set, Position: start, Moves: l}} {
			want := head + strings.Repeat(" h2e2", n)
			wantPrinted(t, c, want)
			wantRefused(t, want, api.ErrLine)
		}
	}
}

// scattered is a position that has a text: the generals and some other pieces.
func scattered(r *random) api.Position {
	for {
		cells := []byte(with(""))
		for _, c := range []byte("KkAaBbNnRrCcPPpp") {
			points := place.Points(c)
			if n := points[r.below(len(points))]; cells[n] == '.' && (c == 'K' || c == 'k' || r.below(2) > 0) {
				cells[n] = c
			}
		}
		p := api.Position{Cells: string(cells), Side: r.below(2), Clock: r.below(121), Full: 1 + r.below(9999)}
		if place.Check(p) == api.OK {
			return p
		}
	}
}

func TestAgain(t *testing.T) {
	r := random(2862933555777941757)
	wrong := 0
	for range 2000 {
		var l []api.Move
		for range r.below(30) {
			l = append(l, api.Move{From: r.below(90), To: r.below(90)})
		}
		p := scattered(&r)
		if check.Well(p) != api.OK {
			wrong++
		}
		if r.below(9) == 0 {
			p = start
		}
		again(t, line.Command{Kind: line.Set, Position: p, Moves: l})
		again(t, line.Command{Kind: line.Ban, Moves: l})
		again(t, line.Command{Kind: line.Go, Depth: 1 + r.below(64)})
	}
	for _, kind := range []int{line.Ucci, line.Ready, line.Probe, line.Stop, line.Quit} {
		again(t, line.Command{Kind: kind})
	}
	if wrong == 0 {
		t.Error("P23.4: no position was seen that is not right")
	}
}

// FuzzParse reads any line, prints what was read, and reads that.
func FuzzParse(f *testing.F) {
	for _, s := range lines() {
		f.Add(s)
	}
	f.Fuzz(func(t *testing.T, s string) {
		asPlain(t, s)
		line.Words(s)
	})
}
