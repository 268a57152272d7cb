package ucci_test

import (
	"fmt"
	"slices"
	"strings"
	"testing"

	"riverbank/api"
	"riverbank/check"
	"riverbank/fen"
	"riverbank/game"
	"riverbank/iccs"
	"riverbank/judge"
	"riverbank/key"
	"riverbank/legal"
	"riverbank/line"
	"riverbank/match"
	"riverbank/perft"
	"riverbank/ucci"
	"riverbank/value"
	"riverbank/wxf"
)

func TestMoves(t *testing.T) {
	t.Parallel()
	ends := map[int]int{}
	for _, p := range many() {
		want := plainMoves(p)
		if got := legal.Moves(p); !slices.Equal(got, want) {
			t.Errorf("P1: %v: got %v, want %v", p, got, want)
		}
		end := 0
		switch {
		case len(want) == 0 && attacked(p.Cells, p.Side):
			end = api.Mate
		case len(want) == 0:
			end = api.Stale
		}
		ends[end]++
		if got := legal.End(p); got != end {
			t.Errorf("P1: %v: end: got %d, want %d", p, got, end)
		}
		for _, m := range want {
			if q, _, e := legal.Make(p, m); q != plainBehind(p, m) || e != api.OK {
				t.Errorf("P1: %v, %v: got %v, %d, want %v", p, m, q, e, plainBehind(p, m))
			}
		}
	}
	if ends[api.NoReason] < 500 || ends[api.Mate] < 2 || ends[api.Stale] < 2 {
		t.Errorf("P1: too little was seen: %v", ends)
	}
}

// TestNoOtherMoves asks of all pairs of squares.
func TestNoOtherMoves(t *testing.T) {
	for _, p := range append(scattered(4, "RCNrcnPpAaBb", 0), start) {
		may := plainMoves(p)
		for from := -1; from <= 90; from++ {
			for to := -1; to <= 90; to++ {
				m := move(from, to)
				if got, want := legal.Is(p, m), slices.Contains(may, m); got != want {
					t.Errorf("P1: %v, %v: got %v, want %v", p, m, got, want)
				}
			}
		}
	}
}

// TestRight tells which positions are right: those in which nobody's general could be taken now.
func TestRight(t *testing.T) {
	r := random(1442695040888963407)
	seen := map[api.Errno]int{}
	for range 4000 {
		p := strewn(&r, "RCNPrcnp")
		want := api.OK
		switch {
		case facing(p.Cells):
			want = api.ErrFacing
		case attacked(p.Cells, 1-p.Side):
			want = api.ErrCheck
		}
		seen[want]++
		if got := check.Well(p); got != want {
			t.Errorf("P1: %v: got %d, want %d", p, got, want)
		}
		if want != api.OK && (len(legal.Moves(p)) != 0 || legal.End(p) != 0) {
			t.Errorf("P1: %v: %v, %d", p, legal.Moves(p), legal.End(p))
		}
	}
	if seen[api.OK] < 100 || seen[api.ErrFacing] < 100 || seen[api.ErrCheck] < 100 {
		t.Errorf("P1: too little was seen: %v", seen)
	}
}

func TestCounts(t *testing.T) {
	t.Parallel()
	for depth, want := range []int{1, 44, 1920, 79666} {
		if got, e := perft.Count(start, depth); got != want || e != api.OK {
			t.Errorf("P1: from the start, %d deep: got %d, %d, want %d", depth, got, e, want)
		}
	}
	for _, p := range scattered(40, "RCNrcnPpAb", 0, 119) {
		want := 0
		for _, m := range plainMoves(p) {
			want += len(plainMoves(plainBehind(p, m)))
		}
		if got, e := perft.Count(p, 2); got != want || e != api.OK {
			t.Errorf("P1: %v: got %d, %d, want %d", p, got, e, want)
		}
	}
}

// plainText is a position's text.
func plainText(p api.Position) string {
	var ranks []string
	for rank := 9; rank >= 0; rank-- {
		text := p.Cells[9*rank : 9*rank+9]
		for n := 9; n > 0; n-- {
			text = strings.ReplaceAll(text, strings.Repeat(".", n), fmt.Sprint(n))
		}
		ranks = append(ranks, text)
	}
	return fmt.Sprintf("%s %c - - %d %d", strings.Join(ranks, "/"), "wb"[p.Side], p.Clock, p.Full)
}

func TestTextsOfPositions(t *testing.T) {
	t.Parallel()
	texts := map[string]api.Position{}
	for _, p := range many() {
		want := plainText(p)
		s, e := fen.Print(p)
		if s != want || e != api.OK {
			t.Errorf("P2: %v: got %q, %d, want %q", p, s, e, want)
		}
		if other, ok := texts[s]; ok && other != p {
			t.Errorf("P2: %v and %v have one text", p, other)
		}
		texts[s] = p
		if q, e := fen.Parse(s); q != p || e != api.OK {
			t.Errorf("P2: %q: got %v, %d, want %v", s, q, e, p)
		}
		told := ucci.Run([]string{"position fen " + s, "probe"})
		if len(told) != 1 || !strings.HasPrefix(told[0], "probe "+s+" verdict ") {
			t.Errorf("P2: %q: it is told as %q", s, told)
		}
	}
}

func TestTextsOfMoves(t *testing.T) {
	texts := map[string]bool{}
	for from := range 90 {
		for to := range 90 {
			m := move(from, to)
			s := iccs.Print(m)
			if want := fmt.Sprintf("%c%d%c%d", 'a'+from%9, from/9, 'a'+to%9, to/9); s != want {
				t.Errorf("P2: %v: got %q, want %q", m, s, want)
			}
			if got, e := iccs.Parse(s); got != m || e != api.OK {
				t.Errorf("P2: %q: got %v, %d, want %v", s, got, e, m)
			}
			texts[s] = true
		}
	}
	if len(texts) != 8100 {
		t.Errorf("P2: %d texts", len(texts))
	}
}

func TestTextsOfPlayers(t *testing.T) {
	t.Parallel()
	l := append(walk(4, 80), scattered(40, "RRCCNNPPPPPrrccnnppppp", 0)...)
	l = append(l, red("KkPPPPP", 3, 85, 46, 55, 64, 50, 59), red("KkPPPP", 3, 85, 46, 55, 50, 59), red("KkRRCCNN", 3, 85, 0, 9, 1, 10, 2, 11), red("KkAABB", 3, 85, 13, 21, 18, 2))
	for _, p := range l {
		for _, q := range []api.Position{p, turned(p)} {
			seen := map[string]api.Move{}
			for _, m := range plainMoves(q) {
				s, e := wxf.Print(q, m)
				other, twice := seen[s]
				if e != api.OK || len(s) != 4 || twice {
					t.Errorf("P2: %v, %v: %q, %d; %v, too: %v", q, m, s, e, other, twice)
				}
				seen[s] = m
				if got, e := wxf.Parse(q, s); got != m || e != api.OK {
					t.Errorf("P2: %v, %q: got %v, %d, want %v", q, s, got, e, m)
				}
			}
		}
	}
}

// TestSteps goes games on and back: what is kept is what is told anew of the position there.
func TestSteps(t *testing.T) {
	t.Parallel()
	r := random(3935559000370003845)
	for _, p := range append(scattered(25, "RCNrcnPpAaBb", 0, 100, 119), start, start, start) {
		g, e := game.New(p)
		if e != api.OK {
			t.Fatalf("P3: %v: %d", p, e)
		}
		worth, number := value.Of(p), key.Of(p)
		path := []api.Position{p}
		var played []api.Move
		for range 60 {
			now := path[len(path)-1]
			may := plainMoves(now)
			if len(may) == 0 {
				break
			}
			m := may[r.below(len(may))]
			taken := now.Cells[m.To]
			if taken == '.' {
				taken = 0
			}
			worth, number = value.Moved(worth, now.Cells[m.From], m, taken), key.Moved(number, now.Cells[m.From], m, taken)
			if e := g.Make(m); e != api.OK {
				t.Fatalf("P3: %v, %v: %d", now, m, e)
			}
			q := plainBehind(now, m)
			path, played = append(path, q), append(played, m)
			anew, _ := fen.Parse(plainText(q))
			if g.Position() != q || anew != q {
				t.Errorf("P3: %v, %v: got %v, want %v", now, m, g.Position(), q)
			}
			if worth != value.Of(q) || worth != plainValue(q) || number != key.Of(q) {
				t.Errorf("P3: %v: worth %d, %d, key %d, %d", q, worth, value.Of(q), number, key.Of(q))
			}
		}
		if v, l, e := judge.Play(p, played); e == api.OK && !slices.Equal(l, path) {
			t.Errorf("P3: %v, %v: judged %v: %v, want %v", p, played, v, l, path)
		}
		if l, q, e := iccs.Line(p, iccs.Text(played)); !slices.Equal(l, played) || q != path[len(played)] || e != api.OK {
			t.Errorf("P3: %v, %v: read as %v, %v, %d", p, played, l, q, e)
		}
		for n := len(played); n > 0; n-- {
			if g.Plies() != n || !slices.Equal(g.Past(), played[:n]) || g.Position() != path[n] {
				t.Errorf("P3: %v: %d plies: %v", p, n, g.Position())
			}
			g.Unmake()
		}
		if g.Position() != p || g.Unmake() != api.ErrEnd {
			t.Errorf("P3: taken back: got %v, want %v", g.Position(), p)
		}
	}
}

// TestStepsOfMatches sets up a game move by move: a match, and a session, are where the plain rules lead.
func TestStepsOfMatches(t *testing.T) {
	r := random(6364136223846793005)
	now := start
	var played []api.Move
	for range 60 {
		may := plainMoves(now)
		m := may[r.below(len(may))]
		played, now = append(played, m), plainBehind(now, m)
		x, s := match.New(), ucci.New()
		e := x.Set(start, played)
		said := s.Say(line.Print(line.Command{Kind: line.Set, Position: start, Moves: played}))
		if e != api.OK || len(said) > 0 {
			break // it has ended ahead of that move
		}
		if x.Now() != now || s.Now() != now || x.Plies() != len(played) {
			t.Errorf("P3: %v: got %v, %v, want %v", played, x.Now(), s.Now(), now)
		}
	}
	if len(played) < 10 {
		t.Errorf("P3: too short a game: %d", len(played))
	}
}
