package ucci_test

import (
	"fmt"
	"math"
	"slices"
	"testing"

	"riverbank/api"
	"riverbank/iccs"
	"riverbank/line"
	"riverbank/quiet"
	"riverbank/search"
	"riverbank/ucci"
)

// sorts are positions of many kinds, each kind with how deep a plain tree can be gone through.
func sorts() map[int][]api.Position {
	var two []api.Position
	for _, pieces := range []string{"RCn", "NRp", "CPrb", "Rar", "RRab", "PPpp"} {
		two = append(two, scattered(5, pieces, 0, 50, 118, 119, 120)...)
	}
	return map[int][]api.Position{
		3: scattered(12, "P", 0, 117, 119),
		2: append(two, red("KkRRp", 4, 84, 17, 72, 45), red("Kkrr", 4, 84, 12, 0), red("Kkr", 4, 86, 12), red("KkRn", 3, 85, 36, 40)),
		1: scattered(15, "RCNrcnPp", 0, 119),
	}
}

func TestQuiet(t *testing.T) {
	t.Parallel()
	for _, l := range sorts() {
		for _, p := range l {
			if got, want := quiet.Of(p), plainQuiet(p); got != want {
				t.Errorf("P5: quiet %v: got %d, want %d", p, got, want)
			}
		}
	}
}

// plainBest is the first one of the moves that attain what the plain tree tells.
func plainBest(p api.Position, depth int) search.Result {
	r := search.Result{Score: math.MinInt}
	for _, m := range plainMoves(p) {
		if worth := -plainWorth(plainBehind(p, m), depth-1, 1); worth > r.Score {
			r = search.Result{Move: m, Score: worth, Depth: depth, Found: true}
		}
	}
	if !r.Found {
		return search.Result{}
	}
	return r
}

func TestBest(t *testing.T) {
	t.Parallel()
	for deepest, l := range sorts() {
		for _, p := range l {
			for depth := 1; depth <= deepest; depth++ {
				for _, q := range []api.Position{p, turned(p)} {
					wantBest(t, q, depth)
				}
			}
		}
	}
}

// wantBest wants all that searches to come to what the plain tree tells.
func wantBest(t *testing.T, p api.Position, depth int) {
	t.Helper()
	want := plainBest(p, depth)
	if got, e := search.Best(p, depth, nil, nil); got != want || e != api.OK {
		t.Errorf("P5: %v, %d deep: got %v, %d, want %v", p, depth, got, e, want)
	}
	if got, e := search.Score(p, depth); want.Found && got != want.Score || e != api.OK {
		t.Errorf("P5: %v, %d deep: got %d, %d, want %v", p, depth, got, e, want)
	}
	if got, e := search.Score(p, 0); got != plainWorth(p, 0, 0) || e != api.OK {
		t.Errorf("P5: %v: got %d, %d, want %d", p, got, e, plainWorth(p, 0, 0))
	}
	if p.Clock == api.MaxClock || !want.Found {
		return // the game has ended there
	}
	told := ucci.Run([]string{"position fen " + plainText(p), fmt.Sprintf("go depth %d", depth)})
	info, best := fmt.Sprintf("info depth %d score %d", depth, want.Score), "bestmove "+iccs.Print(want.Move)
	if len(told) != 2 || told[0] != info || told[1] != best {
		t.Errorf("P5: %v, %d deep: told %q, want %q, %q", p, depth, told, info, best)
	}
}

// TestLimits tells that whatever limit there is, the best move may be made, and is the best one so deep as is told.
func TestLimits(t *testing.T) {
	t.Parallel()
	for _, l := range sorts() {
		for _, p := range l {
			for _, most := range []int{1, 3, 20, 200, 1000000} {
				for depth := 1; depth <= 2; depth++ {
					r, e := search.Limited(p, depth, most)
					if e != api.OK || r.Found != (len(plainMoves(p)) > 0) {
						t.Fatalf("P5: %v, %d deep, at most %d: %v, %d", p, depth, most, r, e)
					}
					want, _ := search.Best(p, max(r.Depth, 1), nil, nil)
					if r != want || r.Depth > depth {
						t.Errorf("P5: %v, %d deep, at most %d: got %v, want %v", p, depth, most, r, want)
					}
				}
			}
		}
	}
}

// TestGameOfBests plays a game by what a session tells: each best move may be made.
func TestGameOfBests(t *testing.T) {
	t.Parallel()
	for _, p := range []api.Position{start, red("KkRn", 3, 85, 36, 40), red("KkRCnp", 4, 86, 36, 22, 41, 58)} {
		s, now, played := ucci.New(), p, []api.Move(nil)
		for range 30 {
			if said := s.Say(line.Print(line.Command{Kind: line.Set, Position: p, Moves: played})); len(said) > 0 {
				t.Fatalf("P5: %v, %v: %q", p, played, said)
			}
			said := s.Say("go depth 1")
			if len(said) == 1 && said[0] == "nobestmove" {
				break
			}
			if len(said) != 2 {
				t.Fatalf("P5: %v, %v: %q", p, played, said)
			}
			m, e := iccs.Parse(said[1][len("bestmove "):])
			if e != api.OK || !slices.Contains(plainMoves(now), m) {
				t.Fatalf("P5: %v: %q may not be made", now, said)
			}
			now, played = plainBehind(now, m), append(played, m)
		}
		if len(played) == 0 || p == start && len(played) < 5 {
			t.Errorf("P5: %v: too short a game: %v", p, played)
		}
	}
}
