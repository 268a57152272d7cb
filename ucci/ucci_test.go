package ucci_test

import (
	"fmt"
	"math"
	"slices"
	"strings"
	"testing"

	"riverbank/api"
	"riverbank/fen"
	"riverbank/iccs"
	"riverbank/judge"
	"riverbank/legal"
	"riverbank/line"
	"riverbank/quiet"
	"riverbank/ucci"
)

const (
	startText = "rnbakabnr/9/1c5c1/p1p1p1p1p/9/9/P1P1P1P1P/1C5C1/9/RNBAKABNR w - - 0 1"
	startTold = "probe " + startText + " verdict 0 0"

	// Positions of few pieces.
	rookText  = "4k4/9/9/9/9/R8/9/9/9/3K5 w - - 0 1"
	takeText  = "4k4/9/9/9/9/R3n4/9/9/9/3K5 w - - 0 1"
	mateText  = "3k5/9/9/9/9/9/9/9/3r5/r3K4 w - - 0 1"
	staleText = "5k3/9/9/9/9/9/9/9/3r5/4K4 w - - 0 1"
	bareText  = "4k4/9/9/9/9/9/9/9/9/3K5 w - - 0 1"
)

// of is one of some texts.
func (r *random) of(l ...string) string { return l[r.below(len(l))] }

// look is a position that is looked at so deep, so many plies behind the first one.
type look struct {
	p            api.Position
	depth, plies int
}

// tree tells what looks are worth by the words of the chapter of search, once each.
type tree map[look]int

func (t tree) of(l look) int {
	worth, ok := t[l]
	if !ok {
		worth = t.anew(l)
		t[l] = worth
	}
	return worth
}

func (t tree) anew(l look) int {
	may := legal.Moves(l.p)
	switch {
	case len(may) == 0:
		return -10000 + l.plies
	case l.p.Clock == 120 && l.plies > 0:
		return 0
	case l.depth == 0:
		return quiet.Of(l.p)
	}
	worth := math.MinInt
	for _, m := range may {
		worth = max(worth, t.behind(l, m))
	}
	return worth
}

// behind is what a move is worth to who makes it.
func (t tree) behind(l look, m api.Move) int {
	q, _, _ := legal.Make(l.p, m)
	return -t.of(look{q, l.depth - 1, l.plies + 1})
}

// talk is a session, kept in the plainest way: what it was set to, and what was banned.
type talk struct {
	p      api.Position
	played []api.Move
	banned []api.Move
	done   bool
	trees  tree
}

func begun() *talk { return &talk{p: start, trees: tree{}} }

// at is where it is, and the verdict there.
func (k *talk) at() (api.Position, api.Verdict) {
	v, l, _ := judge.Play(k.p, k.played)
	return l[len(l)-1], v
}

// moves are those that it may go on by.
func (k *talk) moves() []api.Move {
	p, v := k.at()
	if v.Kind != 0 {
		return nil
	}
	return slices.DeleteFunc(legal.Moves(p), func(m api.Move) bool { return slices.Contains(k.banned, m) })
}

// say is what must be answered to a line.
func (k *talk) say(text string) []string {
	if k.done {
		return nil
	}
	c, e := line.Parse(text)
	if e != 0 {
		return []string{fmt.Sprintf("error %d", e)}
	}
	p, v := k.at()
	switch c.Kind {
	case line.Ucci:
		return []string{"id name riverbank", "ucciok"}
	case line.Ready:
		return []string{"readyok"}
	case line.Quit:
		k.done = true
		return []string{"bye"}
	case line.Set:
		if _, _, e := judge.Play(c.Position, c.Moves); e != 0 {
			return []string{fmt.Sprintf("error %d", e)}
		}
		k.p, k.played, k.banned = c.Position, c.Moves, nil
	case line.Ban:
		for _, m := range c.Moves {
			if !legal.Is(p, m) {
				return []string{"error 7"}
			}
		}
		k.banned = c.Moves
	case line.Probe:
		s, _ := fen.Print(p)
		return []string{fmt.Sprintf("probe %s verdict %d %d", s, v.Kind, v.Reason)}
	case line.Go:
		return k.best(c.Depth)
	}
	return nil
}

// best is what must be answered when it looks so deep.
func (k *talk) best(depth int) []string {
	p, _ := k.at()
	found, worth := api.Move{}, math.MinInt
	for _, m := range k.moves() {
		if w := k.trees.behind(look{p, depth, 0}, m); w > worth {
			found, worth = m, w
		}
	}
	if worth == math.MinInt {
		return []string{"nobestmove"}
	}
	return []string{fmt.Sprintf("info depth %d score %d", depth, worth), "bestmove " + iccs.Print(found)}
}

// wantSaid tells a session these lines, each with what must be answered.
func wantSaid(t *testing.T, s *ucci.Session, text string, want ...string) {
	t.Helper()
	if got := s.Say(text); !slices.Equal(got, want) {
		t.Errorf("P24.2: %.90q: got %q, want %q", text, got, want)
	}
}

// told is a session that these lines were told, and nothing was answered.
func told(t *testing.T, lines ...string) *ucci.Session {
	t.Helper()
	s := ucci.New()
	for _, text := range lines {
		wantSaid(t, s, text)
	}
	return s
}

func TestExample(t *testing.T) {
	wantSaid(t, ucci.New(), "isready", "readyok")
}

func TestNew(t *testing.T) {
	s := ucci.New()
	if s == nil {
		t.Fatal("P24.1: nil")
	}
	if s.Now() != start || s.Done() {
		t.Errorf("P24.1: %v, %v", s.Now(), s.Done())
	}
	wantSaid(t, s, "probe", startTold)
	wantSaid(t, s, "go depth 1", begun().best(1)...)
}

func TestNil(t *testing.T) {
	var s *ucci.Session
	for _, text := range append(lines(), "ucci\n", strings.Repeat("x", 5000)) {
		wantSaid(t, s, text)
		if !s.Done() || s.Now() != (api.Position{}) {
			t.Errorf("P24.1: nil: %v, %v", s.Now(), s.Done())
		}
	}
}

// TestZeroValue tells that a session that New did not make answers, too: what, nobody says.
func TestZeroValue(t *testing.T) {
	s := &ucci.Session{}
	for _, text := range lines() {
		s.Say(text)
		s.Done()
		s.Now()
	}
}

// lines are some of all kinds, right ones and wrong ones.
func lines() []string {
	return []string{
		"", " ", "x", "ucci x", "go", "go depth 0", "go depth 65", "position", "position fen", "banmoves x", "bestmove h2e2",
		"position startpos moves", "position startpos moves h2e2", "position startpos moves h2e2 h9g7 h0g2", "position startpos moves h2e3", "position startpos moves x",
		"position startpos moves a0a1 a9a8 a1a0 a8a9", "position startpos moves a0a1 a9a8 a1a0 a8a9 a0a1",
		"position fen " + rookText, "position fen " + takeText, "position fen " + mateText, "position fen " + staleText, "position fen " + bareText,
		"position fen " + mateText + " moves e0e1", "position fen 4k4/9/9/9/9/9/9/9/9/4K4 w", "position fen 4k4/9/9/9/4R4/9/9/9/9/3K5 w", "position fen 9/9 w", "position fen 4k4/9/9/9/9/9/9/9/9/K8 w",
		"position fen " + rookText + " moves a4e4 e9f9 e4f4 f9e9 f4e4", "position fen 4k4/9/9/R8/9/2n6/9/9/9/3K5 w moves a6a4 c4d6 a4a6 d6c4",
		"position fen 4k4/9/9/9/9/R8/9/9/9/3K5 w - - 119 61 moves a4a5", "position fen 4k4/9/9/9/9/R8/9/9/9/3K5 b - - 120 61",
		"banmoves", "banmoves h2e2", "banmoves h2e2 h2e2 h2d2", "banmoves a4e4 d0d1", "banmoves a4e4 e4a4", "banmoves d0d1 d0e0", "banmoves a0a1",
		"ucci", "isready", "probe", "stop", "quit",
	}
}

func TestByHand(t *testing.T) {
	for i, c := range []struct{ lines, want []string }{
		{nil, nil}, {[]string{}, nil}, {[]string{"stop"}, nil}, {[]string{"ucci"}, []string{"id name riverbank", "ucciok"}},
		{[]string{"isready", " isready", "isready\t", "ucci"}, []string{"readyok", "readyok", "readyok", "id name riverbank", "ucciok"}},
		{[]string{"quit", "ucci", "isready", "probe", "go depth 1", "x", "quit", "position startpos moves h2e2"}, []string{"bye"}},
		{[]string{"", "x", "isready\n", "go depth 65", "banmoves h2", "position startpos moves x", "position fen 9 w"}, []string{"error 9", "error 9", "error 9", "error 9", "error 6", "error 6", "error 6"}},
		{[]string{"position fen " + startText[:len(startText)-1] + "0", "position fen 4k4/9/9/9/9/9/9/9/9/9 w", "position fen 4k4/9/9/9/9/9/9/9/9/K8 w", "position fen 4k4/9/9/9/9/9/9/9/9/4K4 w", "position fen 4k4/9/9/9/4R4/9/9/9/9/3K5 w"}, []string{"error 1", "error 3", "error 2", "error 4", "error 5"}},
		{[]string{"position startpos moves h2e3", "position startpos moves h9g7", "banmoves h2e3", "banmoves h9g7", "position fen " + mateText + " moves e0e1"}, []string{"error 7", "error 7", "error 7", "error 7", "error 10"}},
		{[]string{"probe", "position startpos moves h2e2 h9g7 h0g2", "probe"}, []string{startTold, "probe rnbakab1r/9/1c4nc1/p1p1p1p1p/9/9/P1P1P1P1P/1C2C1N2/9/RNBAKAB1R b - - 3 2 verdict 0 0"}},
		{[]string{"position startpos moves h2h9", "probe"}, []string{"probe rnbakabCr/9/1c5c1/p1p1p1p1p/9/9/P1P1P1P1P/1C7/9/RNBAKABNR b - - 0 1 verdict 0 0"}},
		{[]string{"position startpos moves h2e2", "position startpos", "probe"}, []string{startTold}},
		{[]string{"position fen " + takeText, "go depth 1", "go depth 2"}, []string{"info depth 1 score 208", "bestmove a4e4", "info depth 2 score 208", "bestmove d0e0"}},
		{[]string{"position fen " + takeText, "banmoves a4e4", "go depth 1", "banmoves a4b4 a4c4 a4d4", "go depth 1"}, []string{"info depth 1 score 110", "bestmove a4a9", "info depth 1 score 208", "bestmove a4e4"}},
		{[]string{"position fen 4k4/9/9/9/9/R3n4/9/9/9/3K5 b", "go depth 1"}, []string{"info depth 1 score -104", "bestmove e4d2"}},
	} {
		if got := ucci.Run(c.lines); !slices.Equal(got, c.want) {
			t.Errorf("P24.3: case %d: got %q, want %q", i, got, c.want)
		}
	}
}

// ends are lines behind which a game has ended, or goes on, with its verdict there.
func ends() map[string]string {
	return map[string]string{
		"position startpos":                                                                 "0 0",
		"position startpos moves a0a1 a9a8 a1a0 a8a9":                                       "1 5",
		"position startpos moves a0a1 a9a8 a1a0":                                            "0 0",
		"position startpos moves h2e2 a9a8 a0a1 a8a9 a1a0":                                  "1 5",
		"position fen " + mateText:                                                          "2 1",
		"position fen " + staleText:                                                         "2 2",
		"position fen R3k4/3R5/9/9/9/9/9/9/9/3K5 b":                                         "3 1",
		"position fen 4k4/5R3/9/9/9/9/9/9/9/3K5 b":                                          "3 2",
		"position fen 3k5/9/9/9/9/9/9/9/3r5/4K3r b":                                         "error 5",
		"position fen 3k5/9/9/9/9/9/9/9/3r4r/4K4 b moves i1i0":                              "2 1",
		"position fen " + rookText + " moves a4e4 e9f9 e4f4 f9e9 f4e4":                      "2 3",
		"position fen " + rookText + " moves a4e4 e9f9 e4f4 f9e9":                           "0 0",
		"position fen 4k4/9/9/R8/9/2n6/9/9/9/3K5 w moves a6a4 c4d6 a4a6 d6c4":               "2 4",
		"position fen 5k3/9/9/9/6N2/9/8r/9/9/4K4 b moves i3i5 g5f3 i5i3 f3g5":               "3 4",
		"position fen 5k3/9/9/9/8r/9/9/9/9/4K4 b moves i5e5 e0d0 e5d5 d0e0 d5e5":            "3 3",
		"position fen 4k4/9/9/9/9/R8/9/9/9/3K5 w - - 119 61 moves a4a5":                     "1 6",
		"position fen 4k4/9/9/9/9/R8/9/9/9/3K5 w - - 118 61 moves a4a5":                     "0 0",
		"position fen 4k4/9/9/9/9/R8/9/9/9/3K5 b - - 120 61":                                "1 6",
		"position fen 4k4/9/9/9/9/R3n4/9/9/9/3K5 w - - 119 61 moves a4e4":                   "0 0",
		"position fen R3k4/3R5/9/9/9/9/9/9/9/3K5 b - - 120 61":                              "3 1",
		"position fen 4k4/9/9/9/9/9/9/9/9/R2K5 w - - 116 1 moves a0a1 e9e8 a1a0 e8e9":       "1 5",
		"position fen 4k4/9/9/9/9/9/9/9/9/R2K5 w - - 117 1 moves a0a1 e9e8 a1a0 e8e9":       "error 10",
		"position fen " + rookText + " moves a4e4 e9f9 e4f4 f9e9 f4e4 e9f9":                 "error 10",
		"position fen 4k4/9/9/9/9/R8/9/9/9/3K5 w - - 115 61 moves a4e4 e9f9 e4f4 f9e9 f4e4": "2 3",
	}
}

func TestVerdicts(t *testing.T) {
	for text, want := range ends() {
		s := ucci.New()
		if strings.HasPrefix(want, "error") {
			wantSaid(t, s, text, want)
			wantSaid(t, s, "probe", startTold)
			continue
		}
		wantSaid(t, s, text)
		now, _ := fen.Print(s.Now())
		wantSaid(t, s, "probe", "probe "+now+" verdict "+want)
		if want != "0 0" {
			wantSaid(t, s, "go depth 1", "nobestmove")
			wantSaid(t, s, "go depth 2", "nobestmove")
		} else if got := s.Say("go depth 1"); len(got) != 2 {
			t.Errorf("P24.2: %q: go depth 1: %q", text, got)
		}
	}
}

// TestRefused tells P6, too: what is refused changes nothing, wherever a session is.
func TestRefused(t *testing.T) {
	refused := map[string]string{
		"x": "error 9", "": "error 9", "banmoves h2": "error 6", "banmoves a5a6": "error 7", "banmoves d0d1 x": "error 6", "banmoves d0d1 a4a5 i0i9": "error 7",
		"position startpos moves h2e3": "error 7", "position startpos moves h2e2 h2e3": "error 7", "position startpos moves h2e2 x": "error 6", "position startpos h2e2": "error 9",
		"position startpos moves a0a1 a9a8 a1a0 a8a9 a0a1": "error 10", "position fen 9/9 w": "error 6", "position fen 4k4/9/9/9/9/9/9/9/9/4K4 w": "error 4", "position fen 4k4/9/9/9/4R4/9/9/9/9/3K5 w moves e5e6": "error 5",
		"position fen " + mateText + " moves e0e1": "error 10", "position fen " + bareText + " moves d0d1 e9e7": "error 7", "position fen 4k4/9/9/9/9/9/9/9/9/K8 w": "error 2", "position fen 4k4/9/9/9/9/9/9/9/9/9 w": "error 3", "position fen " + startText + "0000": "error 6", "position fen 4k4/9/9/9/9/9/9/9/9/3K5 w - - 121 1": "error 1",
		"go depth 65": "error 9", "go depth 0": "error 9", "isready" + strings.Repeat(" ", 4090): "error 9", "isready\r": "error 9",
	}
	states := [][]string{
		nil, {"banmoves h2e2 a0a1"}, {"position startpos moves a0a1"}, {"position fen " + rookText, "banmoves a4e4 d0d1"}, {"position startpos moves a0a1 a9a8 a1a0 a8a9"},
		{"position fen " + bareText, "banmoves d0d1"}, {"position fen " + mateText}, {"position fen 4k4/9/9/9/9/R8/9/9/9/3K5 w - - 119 61"},
	}
	for _, state := range states {
		k := begun()
		for _, text := range state {
			k.say(text)
		}
		probed, gone := k.say("probe"), k.say("go depth 1")
		for text, want := range refused {
			s := told(t, state...)
			wantSaid(t, s, text, want)
			as(t, s, k)
			wantSaid(t, s, "probe", probed...)
			wantSaid(t, s, "go depth 1", gone...)
		}
	}
}

// as wants a session to be where the plain one is.
func as(t *testing.T, s *ucci.Session, k *talk) {
	t.Helper()
	now, _ := k.at()
	if s.Now() != now || s.Done() != k.done {
		t.Errorf("P24.1: got %v, %v, want %v, %v", s.Now(), s.Done(), now, k.done)
	}
}

func TestBan(t *testing.T) {
	s := told(t, "position fen "+bareText)
	both := "nobestmove"
	wantSaid(t, s, "go depth 1", "info depth 1 score 0", "bestmove d0d1")
	wantSaid(t, s, "banmoves d0d1")
	wantSaid(t, s, "go depth 1", both)
	// What is banned is just what was banned last.
	wantSaid(t, s, "banmoves")
	wantSaid(t, s, "go depth 1", "info depth 1 score 0", "bestmove d0d1")
	wantSaid(t, s, "banmoves D0-D1 d0d1")
	wantSaid(t, s, "banmoves d0d1 d0f0", "error 7")
	wantSaid(t, s, "go depth 1", both)
	wantSaid(t, s, "position fen 9/9 w", "error 6")
	wantSaid(t, s, "go depth 3", both)
	wantSaid(t, s, "position fen "+bareText)
	wantSaid(t, s, "go depth 1", "info depth 1 score 0", "bestmove d0d1")
	wantSaid(t, s, "go depth 1", "info depth 1 score 0", "bestmove d0d1")
}

// TestBanAll bans move by move what is best, till there is none.
func TestBanAll(t *testing.T) {
	for _, text := range []string{rookText, takeText, "4k4/4a4/9/4p4/9/4P4/9/4C4/9/3K2N2 w - - 0 1", "3ak4/9/9/2r6/9/2C6/9/9/9/2B2K3 b - - 117 40"} {
		s, k := told(t, "position fen "+text), begun()
		k.say("position fen " + text)
		all := k.moves()
		var banned []string
		for range all {
			want := k.say("go depth 2")
			wantSaid(t, s, "go depth 2", want...)
			if len(want) != 2 {
				t.Fatalf("P24.2: %s: too soon: %q", text, want)
			}
			best := strings.TrimPrefix(want[1], "bestmove ")
			if slices.Contains(banned, best) {
				t.Errorf("P24.4: %s: %s is banned", text, best)
			}
			banned = append(banned, best)
			ban := "banmoves " + strings.Join(banned, " ")
			wantSaid(t, s, ban, k.say(ban)...)
		}
		wantSaid(t, s, "go depth 1", "nobestmove")
		wantSaid(t, s, "go depth 2", "nobestmove")
	}
}

func TestGo(t *testing.T) {
	for text, depth := range map[string]int{rookText: 3, takeText: 3, bareText: 5, "3k5/R8/9/9/9/p8/9/9/8R/4K4 w - - 0 1": 2, "3k5/9/9/9/9/R8/9/9/9/4K4 b - - 117 9": 4, "4k4/9/9/9/1r7/9/9/1N7/9/3K5 b - - 0 1": 3, "3ak4/9/9/2r6/9/2C6/9/9/9/2B2K3 b - - 117 40": 3} {
		s, k := told(t, "position fen "+text), begun()
		k.say("position fen " + text)
		for d := 1; d <= depth; d++ {
			for range 2 {
				x := fmt.Sprintf("go depth %d", d)
				wantSaid(t, s, x, k.say(x)...)
			}
		}
		wantSaid(t, s, "go depth 1", k.say("go depth 1")...)
	}
}

// TestGoDeep asks for as deep a look as can be, where the clock runs out soon.
func TestGoDeep(t *testing.T) {
	s := told(t, "position fen 4k4/9/9/9/9/9/9/9/9/3K5 w - - 119 1")
	wantSaid(t, s, "go depth 64", "info depth 64 score 0", "bestmove d0d1")
	wantSaid(t, s, "position fen 4k4/9/9/9/9/9/9/9/9/3K5 w - - 117 1 moves d0d1")
	wantSaid(t, s, "go depth 64", "info depth 64 score 0", "bestmove e9e8")
}

func TestQuit(t *testing.T) {
	for _, text := range lines() {
		s := told(t, "position startpos moves h2e2")
		there := s.Now()
		wantSaid(t, s, "quit", "bye")
		wantSaid(t, s, text)
		if !s.Done() || s.Now() != there {
			t.Errorf("P24.2: %q behind quit: %v, %v", text, s.Now(), s.Done())
		}
	}
	for _, text := range []string{"quit x", "Quit", "quit\n", "stop", "bye", "x"} {
		s := ucci.New()
		s.Say(text)
		if s.Done() {
			t.Errorf("P24.1: %q: it is done", text)
		}
	}
}

func TestSessionsApart(t *testing.T) {
	a, b := ucci.New(), ucci.New()
	if a == b {
		t.Fatal("P24.1: two are one")
	}
	wantSaid(t, a, "position fen "+bareText)
	wantSaid(t, a, "banmoves d0d1")
	wantSaid(t, b, "probe", startTold)
	wantSaid(t, b, "position fen "+bareText)
	wantSaid(t, b, "go depth 1", "info depth 1 score 0", "bestmove d0d1")
	wantSaid(t, a, "go depth 1", "nobestmove")
	wantSaid(t, a, "quit", "bye")
	if b.Done() || !a.Done() {
		t.Error("P24.1: what is done?")
	}
	wantSaid(t, b, "isready", "readyok")
	wantSaid(t, ucci.New(), "probe", startTold)
}

func TestAnswersAreNew(t *testing.T) {
	s := ucci.New()
	for _, text := range []string{"ucci", "isready", "probe", "x", "go depth 1"} {
		got := s.Say(text)
		kept := slices.Clone(got)
		for i := range got {
			got[i] = "changed"
		}
		wantSaid(t, s, text, kept...)
	}
}

func TestRun(t *testing.T) {
	for range 2 {
		all, s := lines(), ucci.New()
		kept := slices.Clone(all)
		var want []string
		for _, text := range all {
			want = append(want, s.Say(text)...)
		}
		if got := ucci.Run(all); !slices.Equal(got, want) {
			t.Errorf("P24.3: got %q, want %q", got, want)
		}
		if !slices.Equal(all, kept) {
			t.Error("R5: the lines were changed")
		}
	}
	many := slices.Repeat([]string{"isready"}, 20000)
	if got := ucci.Run(many); len(got) != len(many) || got[len(got)-1] != "readyok" {
		t.Errorf("P24.3: %d answers", len(got))
	}
}

// anyLine is a line that has to do with where a plain session is, often.
func anyLine(r *random, k *talk) string {
	p, _ := k.at()
	may := legal.Moves(p)
	some := func() string {
		var l []api.Move
		for range r.below(4) {
			if len(may) > 0 {
				l = append(l, may[r.below(len(may))])
			}
		}
		return iccs.Text(l)
	}
	switch r.below(8) {
	case 0:
		return "banmoves " + some()
	case 1, 2: // one move on, or two
		l := slices.Clone(k.played)
		for range 1 + r.below(2) {
			if may := legal.Moves(p); len(may) > 0 {
				m := may[r.below(len(may))]
				l = append(l, m)
				p, _, _ = legal.Make(p, m)
			}
		}
		return line.Print(line.Command{Kind: line.Set, Position: k.p, Moves: l})
	case 3:
		return "position fen " + r.of(rookText, takeText, bareText, mateText, staleText, "3ak4/9/9/2r6/9/2C6/9/9/9/2B2K3 b - - 117 40", "4k4/9/9/9/1r7/9/9/1N7/9/3K5 b")
	case 4:
		return "go depth " + r.of("1", "1", "2")
	case 5:
		return "probe"
	}
	all := lines()
	return all[r.below(len(all))]
}

// TestPlainSession tells P6, too: whatever is said, the replies are those of the plain session.
func TestPlainSession(t *testing.T) {
	t.Parallel()
	r := random(88172645463325252)
	trees := tree{}
	bests, refused, banned := 0, 0, 0
	for range 150 {
		s, k := ucci.New(), begun()
		k.trees = trees
		var said, answers []string
		for range 40 {
			text := anyLine(&r, k)
			if p, _ := k.at(); strings.Count(p.Cells, ".") < 80 {
				text = strings.ReplaceAll(text, "depth 2", "depth 1")
			}
			want := k.say(text)
			wantSaid(t, s, text, want...)
			as(t, s, k)
			said, answers = append(said, text), append(answers, want...)
			switch {
			case len(want) == 2 && strings.HasPrefix(want[1], "bestmove"):
				bests++
				if len(k.banned) > 0 {
					banned++
				}
			case len(want) == 1 && strings.HasPrefix(want[0], "error"):
				refused++
			}
		}
		if got := ucci.Run(said); !slices.Equal(got, answers) {
			t.Errorf("P24.3: %q: got %q, want %q", said, got, answers)
		}
		if t.Failed() {
			t.Fatalf("P6: not as the plain session: said %q", said)
		}
	}
	if bests < 100 || refused < 100 || banned < 20 {
		t.Errorf("P6: too little was seen: %d, %d, %d", bests, refused, banned)
	}
}

// TestBestMayBeMade tells what follows: the best move may be made, and is not banned.
func TestBestMayBeMade(t *testing.T) {
	t.Parallel()
	r := random(2862933555777941757)
	for range 6 {
		k := begun()
		for range 25 {
			may := k.moves()
			if len(may) == 0 {
				break
			}
			k.banned = []api.Move{may[r.below(len(may))], may[r.below(len(may))]}
			s := ucci.New()
			wantSaid(t, s, line.Print(line.Command{Kind: line.Set, Position: k.p, Moves: k.played}))
			wantSaid(t, s, line.Print(line.Command{Kind: line.Ban, Moves: k.banned}))
			got := s.Say("go depth 1")
			if len(k.moves()) == 0 {
				break
			}
			if len(got) != 2 {
				t.Fatalf("P24.2: go: %q", got)
			}
			m, e := iccs.Parse(strings.TrimPrefix(got[1], "bestmove "))
			if e != api.OK || !slices.Contains(k.moves(), m) {
				t.Fatalf("P24.4: %q, %v is banned, of %v", got, k.banned, may)
			}
			k.played = append(k.played, m)
		}
	}
}

// TestLongGame sets up as long a game as a line has room for.
func TestLongGame(t *testing.T) {
	r := random(1442695040888963407)
	p, l := start, []api.Move(nil)
	seen := map[string]bool{start.Cells: true}
	for len(l) < 800 {
		may := legal.Moves(p)
		if len(may) == 0 || p.Clock == 120 {
			break
		}
		m := may[r.below(len(may))]
		q, _, _ := legal.Make(p, m)
		if seen[q.Cells] {
			continue
		}
		seen[q.Cells] = true
		p, l = q, append(l, m)
	}
	s := ucci.New()
	text := line.Print(line.Command{Kind: line.Set, Position: start, Moves: l})
	if len(text) > 4096 || len(l) < 100 {
		t.Fatalf("a game of %d moves", len(l))
	}
	wantSaid(t, s, text)
	if s.Now() != p {
		t.Errorf("P24.1: behind %d moves: got %v, want %v", len(l), s.Now(), p)
	}
}
