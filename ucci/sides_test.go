package ucci_test

import (
	"slices"
	"strings"
	"testing"

	"riverbank/api"
	"riverbank/board"
	"riverbank/chase"
	"riverbank/check"
	"riverbank/legal"
	"riverbank/line"
	"riverbank/perft"
	"riverbank/quiet"
	"riverbank/search"
	"riverbank/ucci"
	"riverbank/value"
	"riverbank/wxf"
)

// backwards is a list from its end on: so moves that are turned stand in order.
func backwards(l []api.Move) []api.Move {
	l = slices.Clone(l)
	slices.Reverse(l)
	return l
}

// TestSides tells that seen from the other side all is the same.
func TestSides(t *testing.T) {
	t.Parallel()
	for _, p := range many() {
		q := turned(p)
		if board.Turn(p.Cells) != q.Cells {
			t.Errorf("P7: %v: turned %v", p, board.Turn(p.Cells))
		}
		may := legal.Moves(p)
		if got := legal.Moves(q); !slices.Equal(got, backwards(turnedMoves(may))) {
			t.Errorf("P7: %v: %v, turned %v", p, may, got)
		}
		if check.Well(q) != api.OK || legal.End(p) != legal.End(q) || check.In(p.Cells, p.Side) != check.In(q.Cells, q.Side) {
			t.Errorf("P7: %v: end %d, turned %d", p, legal.End(p), legal.End(q))
		}
		if value.Of(p) != value.Of(q) || value.Of(p) != plainValue(p) {
			t.Errorf("P7: %v: worth %d, turned %d", p, value.Of(p), value.Of(q))
		}
		texts := wxf.All(q)
		slices.Reverse(texts)
		if got := wxf.All(p); !slices.Equal(got, texts) {
			t.Errorf("P7: %v: %q, turned %q", p, got, texts)
		}
		sameChase(t, p)
	}
}

// sameChase wants the same to be chased from both sides, and as the plain rules have it.
func sameChase(t *testing.T, p api.Position) {
	t.Helper()
	here, _ := chase.Of(p)
	there, _ := chase.Of(turned(p))
	var mirrored []int
	for _, n := range there.Chased {
		mirrored = append(mirrored, 89-n)
	}
	slices.Reverse(mirrored)
	want, checks := chased(p)
	var plain []int
	for n := range want {
		plain = append(plain, n)
	}
	slices.Sort(plain)
	if here.Check != there.Check || here.Check != checks || !slices.Equal(here.Chased, mirrored) || !slices.Equal(here.Chased, plain) {
		t.Errorf("P7: %v: %v, turned %v, want %v, %v", p, here, there, checks, plain)
	}
}

func TestSidesOfSearch(t *testing.T) {
	t.Parallel()
	for depth, l := range sorts() {
		for _, p := range l {
			a, _ := search.Score(p, depth)
			b, _ := search.Score(turned(p), depth)
			m, _ := perft.Count(p, depth)
			n, _ := perft.Count(turned(p), depth)
			if a != b || m != n || quiet.Of(p) != quiet.Of(turned(p)) {
				t.Errorf("P7: %v, %d deep: score %d, turned %d; count %d, turned %d", p, depth, a, b, m, n)
			}
		}
	}
}

// TestSidesOfTalk tells both sides' sessions the same, and one of them turned round.
func TestSidesOfTalk(t *testing.T) {
	t.Parallel()
	r := random(7046029254386353131)
	for _, p := range append(scattered(60, "RCNrcnPp", 0, 118), start) {
		l, played := []api.Position{p}, []api.Move(nil)
		for range r.below(6) {
			now := l[len(played)]
			if plainVerdict(l, played) != goes {
				break
			}
			may := plainMoves(now)
			m := may[r.below(len(may))]
			l, played = append(l, plainBehind(now, m)), append(played, m)
		}
		bans := []api.Move(nil)
		if may := plainMoves(l[len(played)]); len(may) > 0 {
			bans = may[r.below(len(may)):]
		}
		sameTalk(t, p, played, bans)
	}
}

func sameTalk(t *testing.T, p api.Position, played []api.Move, bans []api.Move) {
	t.Helper()
	here := ucci.Run([]string{
		line.Print(line.Command{Kind: line.Set, Position: p, Moves: played}), "probe", "go depth 1",
		line.Print(line.Command{Kind: line.Ban, Moves: bans}), "go depth 1", "banmoves a0a0", "quit",
	})
	there := ucci.Run([]string{
		line.Print(line.Command{Kind: line.Set, Position: turned(p), Moves: turnedMoves(played)}), "probe", "go depth 1",
		line.Print(line.Command{Kind: line.Ban, Moves: turnedMoves(bans)}), "go depth 1", "banmoves a0a0", "quit",
	})
	if len(here) != len(there) {
		t.Fatalf("P7: %v, %v: %q, turned %q", p, played, here, there)
	}
	for i, s := range here {
		if got, want := blurred(there[i]), acrossText(s); got != want {
			t.Errorf("P7: %v, %v: %q, turned %q", p, played, s, there[i])
		}
	}
}

// blurred is an answer without what hangs on the side: which of equally good moves is best, and which move it is.
func blurred(s string) string { return acrossText(acrossText(s)) }

// acrossText is such an answer as it would be told from the other side.
func acrossText(s string) string {
	words := strings.Fields(s)
	switch {
	case words[0] == "bestmove" && len(words) == 2:
		return "bestmove"
	case words[0] == "probe":
		words[1] = acrossBoard(words[1])
		words[2] = map[string]string{"w": "b", "b": "w"}[words[2]]
		words[6] = "full"
		words[8] = map[string]string{"0": "0", "1": "1", "2": "3", "3": "2"}[words[8]]
	}
	return strings.Join(words, " ")
}

// acrossBoard is the text of a board that is turned: rank by rank, and each from its end on.
func acrossBoard(s string) string {
	c := []byte(s)
	slices.Reverse(c)
	for i := range c {
		if c[i] >= 'A' {
			c[i] ^= 'a' - 'A'
		}
	}
	return string(c)
}
